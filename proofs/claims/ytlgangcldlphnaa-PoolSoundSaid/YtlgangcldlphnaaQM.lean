/-
  Walks: reference 11's Sound.
-/
import Derived.Test.YtlgangcldlphnaaQL
import Derived.StillTactics
namespace Go.Proofs.Ytlgangcldlphnaa
open Go.RowKit Go.Sort
set_option linter.unusedVariables false
set_option maxRecDepth 100000

def soundK (P : List Sl) (W : List Int) (k : Nat) : Bool := (W ++ kidsA P).all (usedB P) && (List.range k).all (okI P W)
theorem soundK_zero (P : List Sl) (W : List Int) : soundK P W 0 = (W ++ kidsA P).all (usedB P) := by simp [soundK]
theorem soundK_succ (P : List Sl) (W : List Int) (k : Nat) : soundK P W (k + 1) = (soundK P W k && okI P W k) := by
  unfold soundK; rw [List.range_succ, List.all_append]; simp [Bool.and_assoc]
theorem soundK_false {P : List Sl} {W : List Int} {k : Nat} (h : soundK P W k = false) (hk : k ≤ P.length) : soundR P W = false := by
  show soundK P W P.length = false
  obtain ⟨d, hd⟩ : ∃ d, P.length = k + d := ⟨P.length - k, by omega⟩
  rw [hd]
  clear hd hk
  induction d with
  | zero => exact h
  | succ d ih => rw [← Nat.add_assoc, soundK_succ, ih]; rfl
set_option maxHeartbeats 8000000 in
theorem rsound_w (v u : Value) (P : List Sl) (W : List Int) (w : World) (h : IsSlots w v P) (hu : IsInts w u W) (hl : P.length ≤ 900) (hm : (W ++ kidsA P).length ≤ 900) (hz : ∀ i, SmallSl (atP P i)) :
    Calls Try.prog 31 #[poolV v, u] w fun e w' => e = .returned (.bool (soundR P W)) ∧ Below w.heap.size w w' := by
  have mixed := mixedA
  have H := Lib.hid h
  have HI := Lib.hid hu
  have HZ := Lib.hid hz
  have hml : W.length + (kidsA P).length ≤ 900 := by rw [List.length_append] at hm; exact hm
  have HFU : Hid (∀ X : List Int, X.length ≤ 900 → fuelR P X ≤ 1000000) := Lib.hid (fun X hX => by
    unfold fuelR
    have : P.length * (kidsA P).length ≤ 900 * 900 := Nat.mul_le_mul hl (by omega)
    omega)
  have HKA : Hid ((kidsA P).length ≤ 900) := Lib.hid (by omega)
  have HWL : Hid (W.length ≤ 900) := Lib.hid (by omega)
  have HML := Lib.hid hm
  obtain ⟨a, cap, rfl, hle, hcm, hpm⟩ := h.slice
  obtain ⟨W1, hW1⟩ : ∃ W1, W1 = w.alloc (.cells #[.slice a P.length cap] 29) := ⟨_, rfl⟩
  have HBX : Hid (Blk W1 w.heap.size 29 #[.slice a P.length cap]) := Lib.hid (by rw [hW1]; exact Blk.new _ _ _)
  have HB1 : Hid (Below w.heap.size w W1) := Lib.hid (by rw [hW1]; exact below_box _)
  have HCN := Lib.hid (counts_w (.slice a P.length cap) u P W W1 (h.below HB1.out) (hu.below HB1.out) (by omega) (by omega))
  have HW1 := Lib.hid hW1
  have p0 : W1.cell? ⟨w.heap.size, 0, none⟩ = some (.slice a P.length cap) := HBX.out.c0 0 _ rfl
  have HP900 : Hid (P.length ≤ 900) := Lib.hid hl
  rw [hW1] at p0
  clear h hu hz hm hW1 hml
  go_enter Try.func31, Try.ntmps31
  go_wp2_with fail
  rw [← HW1.out]
  refine HCN.out.mono ?_
  rintro e w2 ⟨v5, rfl, hi5, hb⟩
  have HI5 := Lib.hid hi5
  obtain ⟨a5, c5, e5, hl5, hc5⟩ := hi5.slice
  rw [cntU_len] at e5 hl5
  subst e5
  have HB2 := Lib.hid (HB1.out.trans (hb.mono HB1.out.size))
  have HBX2 := Lib.hid (HBX.out.below hb HBX.out.lt)
  have p0 : w2.cell? ⟨w.heap.size, 0, none⟩ = some (.slice a P.length cap) := HBX2.out.c0 0 _ rfl
  have HRE := Lib.hid (rreach_w (.slice a P.length cap) u P W w2 (H.out.below HB2.out) (HI.out.below HB2.out) (by have := HP900.out; omega) (HFU.out _ HWL.out))
  clear hi5 hb HCN HW1 HBX
  have HK0 := Lib.hid (soundK_zero P W)
  rw [← HK0.out]
  go_wp2_with fail
  refine HRE.out.mono ?_
  rintro e w3 ⟨v7, rfl, hown, hb⟩
  have HI7 := Lib.hid (IsInts.owned hown)
  obtain ⟨a7, c7, rfl, hl7, hc7⟩ := (IsInts.owned hown).slice
  have HB3 := Lib.hid (HB2.out.trans (hb.mono HB2.out.size))
  have HBX3 := Lib.hid (HBX2.out.below hb HBX2.out.lt)
  replace HI5 := Lib.hid (HI5.out.below hb)
  clear hown hb HRE HBX2 p0
  obtain ⟨n7, hn7⟩ : ∃ n7, n7 = (reachP P W).length := ⟨_, rfl⟩
  have Hn7 := Lib.hid hn7
  rw [← hn7] at HI7
  rw [← hn7]
  clear hn7 hl7
  go_wp2_with fail
  go_loopw [6, 8] (fun ok i wr => ∃ k : Nat, k ≤ P.length ∧ i = .int .i64 k ∧ ok = .bool (soundK P W k) ∧ Hid (Below w3.heap.size w3 wr)) (fun _ i _ => P.length - (intOf i).toNat)
  case atStart => exact ⟨0, Nat.zero_le _, rfl, rfl, Lib.hid (Below.refl _ _)⟩
  case round =>
    obtain ⟨k, hk, rfl, rfl, HB⟩ := hrel
    have HBw : Hid (Below w.heap.size w wr) := Lib.hid (HB3.out.trans (HB.out.mono HB3.out.size))
    have p0 : wr.cell? ⟨w.heap.size, 0, none⟩ = some (.slice a P.length cap) := (HBX3.out.below HB.out HBX3.out.lt).c0 0 _ rfl
    have HSF : Hid (soundK P W k = false → soundR P W = false) := Lib.hid (fun h => soundK_false h hk)
    have HSN := Lib.hid (soundK_succ P W k)
    have HSE : Hid (k = P.length → soundK P W k = soundR P W) := Lib.hid (by rintro rfl; rfl)
    obtain ⟨q, hq⟩ : ∃ q, soundK P W k = q := ⟨_, rfl⟩
    rw [hq] at HSF HSN HSE
    rw [hq]
    clear hq
    by_cases hlt : k < P.length
    · have hltz : (k : Int) < (P.length : Int) := by omega
      cases q
      · go_wp2
        go_ret
        exact ⟨ret_bool (HSF.out (by simp)).symm, HBw.out⟩
      · clear HSF HSE
        obtain ⟨bb, off, cap', s, he, hbl, hlz, hs, x0, x1, x2, x3, x4, x5, x6, x7⟩ := slot_at (H.out.below HBw.out) k hlt
        injection he with he1 he2 he3
        subst he1 he3
        clear he2
        obtain ⟨vu, vl, vr, ⟨q0, q1, q2⟩, ⟨r0, r1, r2⟩, ⟨s0, s1, s2⟩, ⟨t0, t1, t2⟩, ⟨z0, z1, z2⟩⟩ := s
        have HS := Lib.hid hs
        have HKU : Hid (vu = (atP P k).used) := Lib.hid hs.used
        have HKR : Hid (vr = (atP P k).refs) := Lib.hid hs.refs
        have HKI : Hid (IsInts wr (.slice s0 s1 s2) (atP P k).node.kids) := Lib.hid hs.kids
        clear hs
        simp only [slv] at x0 x1 x2 x3 x4 x5 x6 x7
        obtain ⟨W6, hW6⟩ : ∃ W6, W6 = wr.alloc (.cells #[.bool vu, .bool vl, .int .i64 vr, .slice q0 q1 q2, .slice r0 r1 r2, .slice s0 s1 s2, .slice t0 t1 t2, .slice z0 z1 z2] 61) := ⟨_, rfl⟩
        have HW6 := Lib.hid hW6
        have HB6 : Hid (Below wr.heap.size wr W6) := Lib.hid (by rw [hW6]; exact below_box _)
        have HX6 : Hid (Blk W6 wr.heap.size 61 #[.bool vu, .bool vl, .int .i64 vr, .slice q0 q1 q2, .slice r0 r1 r2, .slice s0 s1 s2, .slice t0 t1 t2, .slice z0 z1 z2]) := Lib.hid (by rw [hW6]; exact Blk.new _ _ _)
        clear hW6
        have HB36 : Hid (Below w3.heap.size w3 W6) := Lib.hid (HB.out.trans (HB6.out.mono HB.out.size))
        cases vu
        · have HOK : Hid (okI P W k = zeroB (atP P k)) := Lib.hid (by unfold okI; rw [if_neg (by rw [← HKU.out]; simp)])
          have HZW := Lib.hid (zero_w _ (atP P k) W6 (HS.out.below HB6.out) (HZ.out k) HKU.out.symm)
          clear HKI HKR
          go_wp2_with fail
          rw [← HW6.out]
          refine HZW.out.mono ?_
          rintro e w7 ⟨rfl, hb⟩
          have HB7 := Lib.hid (HB36.out.trans (hb.mono HB36.out.size))
          have HSN2 : Hid (soundK P W (k + 1) = zeroB (atP P k)) := Lib.hid (by rw [HSN.out, HOK.out]; rfl)
          generalize zeroB (atP P k) = z at *
          clear hb
          go_wp2
          go_roundw
          case rel => exact ⟨k + 1, by omega, by go_num, by rw [HSN2.out], HB7⟩
          case measure => simp [intOf]; omega
        · have hku : (atP P k).used = true := HKU.out.symm
          have hcu := cntU_get (l := W ++ kidsA P) hku
          obtain ⟨n, hn⟩ : ∃ n : Nat, n = (W ++ kidsA P).count (k : Int) := ⟨_, rfl⟩
          obtain ⟨b5, off5, cap5, he, hbl5, hlz5, y0⟩ := at_int (HI5.out.below HB36.out) k (by rw [cntU_len]; exact hlt)
          rw [hcu, ← hn] at y0
          rw [cntU_len] at he
          injection he with he1 he2 he3
          subst he1 he3
          clear he2 hcu
          have hOK : okI P W k = ((vr == (n : Int)) && decide ((k : Int) ∈ reachP P W) && !decide ((k : Int) ∈ reachP P (atP P k).node.kids)) := by unfold okI; rw [if_pos hku, ← HKR.out, ← hn]
          have HKL : Hid ((atP P k).node.kids.length ≤ 900) := Lib.hid (Nat.le_trans (kids_len hku) HKA.out)
          obtain ⟨p1, hp1⟩ : ∃ p1, (vr == (n : Int)) = p1 := ⟨_, rfl⟩
          have HH1 := Lib.hid (fun wx (hx : Below W6.heap.size W6 wx) => (has_w (.slice a7 n7 c7) (reachP P W) (k : Int) wx (HI7.out.below (HB36.out.trans (hx.mono HB36.out.size)))))
          have HH2 := Lib.hid (fun wx v (hv : IsInts wx v (reachP P (atP P k).node.kids)) => has_w v (reachP P (atP P k).node.kids) (k : Int) wx hv)
          have HR2 := Lib.hid (fun wx (hx : Below W6.heap.size W6 wx) => (rreach_w (.slice (some ⟨bb, off, none⟩) P.length cap) (.slice s0 s1 s2) P (atP P k).node.kids wx (H.out.below (HBw.out.trans ((HB6.out.trans (hx.mono HB6.out.size)).mono HBw.out.size))) (HKI.out.below (HB6.out.trans (hx.mono HB6.out.size))) (by have := HP900.out; omega) (HFU.out _ HKL.out)).mono fun e w' (h : ∃ v', _ ∧ _ ∧ _) => (by obtain ⟨v', h1, h2, h3⟩ := h; exact ⟨v', h1, IsInts.owned h2, hx.trans (h3.mono hx.size)⟩ : ∃ v', e = .returned v' ∧ IsInts w' v' (reachP P (atP P k).node.kids) ∧ Below W6.heap.size W6 w'))
          have pp := cell_all (show W6.cell? ⟨w.heap.size, 0, none⟩ = some (.slice (some ⟨bb, off, none⟩) P.length cap) from (HBX3.out.below HB36.out HBX3.out.lt).c0 0 _ rfl)
          have yy := cell_all y0
          have c2 := cell_all (show W6.cell? ⟨wr.heap.size, 2, none⟩ = some (.int .i64 vr) from HX6.out.c0 2 _ rfl)
          have c5 := cell_all (show W6.cell? ⟨wr.heap.size, 5, none⟩ = some (.slice s0 s1 s2) from HX6.out.c0 5 _ rfl)
          have HL0 : Hid (Below W6.heap.size W6 W6) := Lib.hid (Below.refl _ _)
          rw [hp1] at hOK
          have HOK := Lib.hid hOK
          clear hOK y0 hn hku HKI HS HKU HKR
          obtain ⟨m1, hm1⟩ : ∃ m1, decide ((k : Int) ∈ reachP P W) = m1 := ⟨_, rfl⟩
          obtain ⟨m2, hm2⟩ : ∃ m2, decide ((k : Int) ∈ reachP P (atP P k).node.kids) = m2 := ⟨_, rfl⟩
          rw [hm1] at HH1 HOK
          rw [hm2] at HH2 HOK
          clear hm1 hm2
          cases p1
          · have HSN2 : Hid (soundK P W (k + 1) = false) := Lib.hid (by rw [HSN.out, HOK.out]; rfl)
            go_upto_region 9 with fail
            rw [← HW6.out]
            have pp0 := pp _ HL0.out
            have yy0 := yy _ HL0.out
            have c20 := c2 _ HL0.out
            have c50 := c5 _ HL0.out
            clear x0 x1 x2 x3 x4 x5 x6 x7 p0 pp yy c2 c5
            go_quiet (fail)
            go_wp2
            go_roundw
            case rel => exact ⟨k + 1, by omega, by go_num, by rw [HSN2.out], Lib.hid (HB36.out.trans (below_drewN _ _))⟩
            case measure => simp [intOf]; omega
          · cases m1
            · have HSN2 : Hid (soundK P W (k + 1) = false) := Lib.hid (by rw [HSN.out, HOK.out]; rfl)
              go_upto_region 9 with fail
              rw [← HW6.out]
              have pp0 := pp _ HL0.out
              have yy0 := yy _ HL0.out
              have c20 := c2 _ HL0.out
              have c50 := c5 _ HL0.out
              clear x0 x1 x2 x3 x4 x5 x6 x7 p0 pp yy c2 c5
              have HHQ := Lib.hid (fun n => (HH1.out (W6.drewN n) (below_drewN _ _)).mono fun e w' (h : _ ∧ _) => (⟨h.1, h.2.symm⟩ : e = .returned (.bool false) ∧ w' = W6.drewN n))
              go_quiet ((go_at_call 35; exact Calls.quiet_of_same (HHQ.out _)))
              go_wp2
              go_roundw
              case rel => exact ⟨k + 1, by omega, by go_num, by rw [HSN2.out], Lib.hid (HB36.out.trans (below_drewN _ _))⟩
              case measure => simp [intOf]; omega
            · have HSN2 : Hid (soundK P W (k + 1) = !m2) := Lib.hid (by rw [HSN.out, HOK.out]; rfl)
              go_upto_region 9 with fail
              rw [← HW6.out]
              clear x0 x1 x2 x3 x4 x5 x6 x7 p0
              cases m2
              all_goals
                go_region_held3 (fun wx => Below W6.heap.size W6 wx)
                  (repeat (first | with_reducible assumption | with_reducible exact HL0.out | with_reducible refine Below.drew ?_))
                  (first
                    | (go_at_call_of 35 (Value.slice a7 n7 c7); (with_reducible refine (HH1.out _ (by repeat (first | with_reducible assumption | with_reducible exact HL0.out | with_reducible refine Below.drew ?_))).mono ?_); rintro e2 y2 ⟨rfl, rfl⟩)
                    | (go_at_call 27; (with_reducible refine (HR2.out _ (by repeat (first | with_reducible assumption | with_reducible exact HL0.out | with_reducible refine Below.drew ?_))).mono ?_); rintro e3 y3 ⟨v3, rfl, hi3, hS3⟩)
                    | (go_at_call 35; (with_reducible refine (HH2.out _ _ (by first | with_reducible exact hi3 | with_reducible exact hi3.below (below_drewN _ 1))).mono ?_); rintro e4 y4 ⟨rfl, rfl⟩)
                    | fail "no arm")
                go_wp2
                go_roundw
                case rel => exact ⟨k + 1, by omega, by go_num, by rw [HSN2.out]; rfl, Lib.hid (HB36.out.trans (hS3.mono HB36.out.size))⟩
                case measure => simp [intOf]; omega
    · obtain rfl : k = P.length := by omega
      have HSE2 := Lib.hid (HSE.out (by simp))
      go_wp2
      go_ret
      exact ⟨ret_bool HSE2.out, HBw.out⟩

end Go.Proofs.Ytlgangcldlphnaa
