/-
  Walks: package split's quotientUp and cut (gen_ab.py).
-/
import Derived.Test.YthpajecigkfajaaAB
namespace Go.Proofs.Ythpajecigkfajaa
open Go.RowKit Go.Sort
set_option linter.unusedVariables false
set_option maxRecDepth 100000

set_option maxHeartbeats 1000000 in
theorem quot_w (n c : Nat) (w : World) (hn : 1 ≤ n) (hn2 : n ≤ 1000000) (hc : 1 ≤ c) (hc2 : c ≤ 1000000) :
    Calls Try.prog 26 #[.int .i64 (n : Int), .int .i64 (c : Int)] w fun e w' => e = .returned (.int .i64 (upN n c : Nat)) ∧ w = w' := by
  have e1 : IntKind.i64.wrap ((n : Int) - 1) = ((n - 1 : Nat) : Int) := by rw [IntWalk.i64_in _ (by omega)]; omega
  have hz : ((c : Int) == 0) = false := by simp; omega
  have HU : Hid (wrap64 (wrap64 (((n - 1 : Nat) : Int) / (c : Int)) + 1) = ((upN n c : Nat) : Int)) := Lib.hid (by
    have hle : (n - 1) / c ≤ 1000000 := by have := Nat.div_le_self (n - 1) c; omega
    have e2 : (((n - 1 : Nat) : Int)) / (c : Int) = (((n - 1) / c : Nat) : Int) := rfl
    unfold upN
    rw [e2]
    generalize (n - 1) / c = q at *
    rw [IntWalk.wrap64_in (q : Int) (by omega), IntWalk.wrap64_in _ (by omega)]
    omega)
  go_enter Try.func26, Try.ntmps26
  go_wp2
  go_ret
  exact ⟨ret_int HU.out, rfl⟩

theorem infoPL : (Try.prog.info? 24).map (fun i => (i.zero, i.size, i.bytes)) = some (some (.slice none 0 0), 1, 24) := by kernel_rfl
set_option maxHeartbeats 4000000 in
theorem cutP_w (v : Value) (l : List Pr) (m : Int) (w : World) (h : IsRow 0 encP 3 w v l) (hl : l.length ≤ 1000000) (hm : m ≤ 1000000) (hm0 : -1000000 ≤ m) :
    Calls Try.prog 19 #[v, .int .i64 m] w fun e w' => ∃ v', e = .returned v' ∧ IsPcs w.heap.size encP 3 w' v' (cutL l m) ∧ Below w.heap.size w w' := by
  have mixed := mixedA
  have H := Lib.hid h
  obtain ⟨a, cap, rfl, hle, hcm, hne⟩ := h
  unfold maxLen at hcm
  clear hne
  by_cases hm1 : m < 1
  · have HC : Hid (cutL l m = []) := Lib.hid (by unfold cutL; rw [if_pos (.inl hm1)])
    generalize cutL l m = L at *
    go_enter Try.func19, Try.ntmps19
    go_wp2
    go_ret
    rw [HC.out]
    exact ⟨_, rfl, IsPcs.nil _ _ _ _, Below.refl _ _⟩
  by_cases hl0 : l.length = 0
  · have HC : Hid (cutL l m = []) := Lib.hid (by unfold cutL; rw [if_pos (.inr (List.length_eq_zero_iff.1 hl0))])
    generalize cutL l m = L at *
    rw [hl0] at *
    go_enter Try.func19, Try.ntmps19
    go_wp2
    go_ret
    rw [HC.out]
    exact ⟨_, rfl, IsPcs.nil _ _ _ _, Below.refl _ _⟩
  obtain ⟨mn, rfl⟩ : ∃ mn : Nat, m = (mn : Int) := ⟨m.toNat, by omega⟩
  have hlz : 0 < (l.length : Int) := by omega
  have hd0 : ((l.length : Int) == 0) = false := by rw [beq_eq_false_iff_ne]; omega
  have HQ := Lib.hid (fun wx => quot_w l.length mn wx (by omega) hl (by omega) (by omega))
  obtain ⟨c, hc⟩ : ∃ c, c = upN l.length mn := ⟨_, rfl⟩
  have hc1 : 1 ≤ c := by rw [hc]; unfold upN; exact Nat.le_add_left _ _
  have hc2 : c ≤ l.length := by rw [hc]; unfold upN; have := Nat.div_le_self (l.length - 1) mn; omega
  have HC : Hid (cutL l (mn : Int) = cutS c l) := Lib.hid (by unfold cutL; rw [if_neg (by rintro (h | h); omega; subst h; exact hl0 rfl), hc]; rfl)
  rw [← hc] at HQ
  generalize cutL l (mn : Int) = L at *
  obtain ⟨i0, hi, hz0, hz1, hz2⟩ := info_parts infoPL
  clear hc hl0
  go_enter Try.func19, Try.ntmps19
  go_wp2_with (first
    | (go_at_call 26; refine (HQ.out _).mono ?_; rintro e w2 ⟨rfl, rfl⟩)
    | (at_make; refine wpList_make_full _ rfl _ _ 26 rfl w.heap.size 24 i0 (.slice none 0 0) 1 Try.underlying26 hi hz0 hz1 .i64 .i64 _ _ c rfl rfl rfl rfl (by rw [hz2]; omega) (by unfold maxLen; omega) (Nat.le_refl _) ?_; intro w1 hown1 hgrow1))
  have HB1 : Hid (Below w.heap.size w w1) := Lib.hid (Below.grown (Below.refl _ _) hgrow1 (Nat.le_refl _) (fun k hk => by cases hk))
  have hmk := own_blkP hown1
  rw [made_pcs] at hmk
  have HM1 := Lib.hid hmk.1
  clear hown1 hgrow1 hmk
  go_loopw [0, 23] (fun lv i wr => ∃ (k : Nat) (a' : Option Addr) (c' : Nat) (rem : List Pr) (done : List (List Pr)) (vs : List Value), k ≤ c ∧ i = .int .i64 k ∧ lv = .slice a' rem.length c' ∧ rem.length ≤ c' ∧ (c' : Int) ≤ 9223372036854775807 ∧ Hid (IsRow 0 encP 3 w (.slice a' rem.length c') rem) ∧ Hid (done ++ cutS (c - k) rem = cutS c l) ∧ Hid (done.length = k) ∧ Hid (vs.length = k) ∧ c - k ≤ rem.length ∧ rem.length ≤ 1000000 ∧ Hid (∀ i (h : i < done.length), ∃ s, vs[i]? = some s ∧ IsRow (w.heap.size + 1) encP 3 wr s done[i]) ∧ Hid (Blk wr w.heap.size 24 (pcsA vs c)) ∧ Hid (Below w.heap.size w wr)) (fun _ i _ => c - (intOf i).toNat)
  case atStart => exact ⟨0, a, cap, l, [], [], Nat.zero_le _, rfl, rfl, hle, by omega, H, Lib.hid rfl, Lib.hid rfl, Lib.hid rfl, hc2, hl, Lib.hid (fun i h => absurd h (by simp)), HM1, HB1⟩
  case round =>
    obtain ⟨k, a', c', rem, done, vs, hk, rfl, rfl, hrc, hcc, HR, HS, HD, HV, hcr, hrl, HP, HM, HB⟩ := hrel
    by_cases hlt : k < c
    · have hltz : (k : Int) < (c : Int) := by omega
      have hroom := cut_room (c - k - 1) rem.length (by omega)
      rw [show c - k - 1 + 1 = c - k by omega] at hroom
      have HST := Lib.hid (cut_step HS.out hlt)
      have hck : IntKind.i64.wrap ((c : Int) - (k : Int)) = ((c - k : Nat) : Int) := by rw [IntWalk.i64_in _ (by omega)]; omega
      have HQ2 := Lib.hid (fun wx => quot_w rem.length (c - k) wx (by omega) hrl (by omega) (by omega))
      generalize upN rem.length (c - k) = sz at *
      obtain ⟨hs1, hs2, hs3⟩ := hroom
      have hsl := sliceHP a' rem.length c' sz (by omega)
      have hsr := sliceLP a' rem.length c' sz (by omega)
      have HX : Hid (IsRow 0 encP 3 w (sliced a' 0 sz c' 3) (rem.take sz)) := Lib.hid (by have := HR.out.sliced 0 sz (Nat.zero_le _) hs2; rwa [List.drop_zero] at this)
      have HY : Hid (IsRow 0 encP 3 w (sliced a' sz rem.length c' 3) (rem.drop sz)) := Lib.hid (by have := HR.out.sliced sz rem.length hs2 (Nat.le_refl _); rwa [List.take_length] at this)
      obtain ⟨a6, c6, hx6, h61, h62, -⟩ := HX.out
      obtain ⟨a7, c7, hx7, h71, h72, -⟩ := HY.out
      rw [hx6] at HX hsl
      rw [hx7] at HY hsr
      have hl6 : (rem.take sz).length ≤ 1000000 := by rw [List.length_take]; omega
      have Hl7 : Hid ((rem.drop sz).length = rem.length - sz) := Lib.hid List.length_drop
      unfold maxLen at h72
      have HC6 := Lib.hid (fun wx (hx : Below w.heap.size w wx) => cloneP_w 0 _ _ wx (HX.out.below hx) hl6)
      have HPA := Lib.hid (pcsA_set vs c)
      generalize rem.take sz = p6 at *
      generalize rem.drop sz = r7 at *
      obtain ⟨u0, hu0⟩ := pcsA_at vs c k hlt
      have hget := HM.out.c0 k _ hu0
      clear hx6 hx7 hs1 hl6
      go_wp2_with (first
        | (go_at_call 26; refine (HQ2.out _).mono ?_; rintro e w2 ⟨rfl, rfl⟩)
        | fail)
      go_region_with
        (first
          | (go_at_call 27; (refine (HC6.out _ (by first | exact HB.out | exact HB.out.drew)).mono ?_); rintro e w3 ⟨v3, rfl, hown3, hb3⟩; obtain ⟨p3, q3, rfl⟩ := own_slice hown3; have hq3 : Below wr.heap.size wr w3 := ((Below.refl wr.heap.size wr).drew).trans hb3; have hS3 : Below w.heap.size w w3 := HB.out.trans (hq3.mono HB.out.size); have hm3 := HM.out.below hq3 HM.out.lt; have c3 := hm3.c0 k _ hu0; have f3 := hm3.free k)
          | fail "no arm")
      all_goals
        have HO3 := Lib.hid hown3
        have HQ3 := Lib.hid hq3
        have HM3 := Lib.hid hm3
        clear hown3 hq3 hm3 hb3
        go_wp2
        go_roundw
        case rel =>
          have hl7 := Hl7.out
          have hw := HM.out.lt
          have ho : IsRow (w.heap.size + 1) encP 3 w3 (.slice p3 p6.length q3) p6 := (IsRow.owned lenP HO3.out).lower (by show w.heap.size + 1 ≤ wr.heap.size; exact hw)
          refine ⟨k + 1, a7, c7, r7, done ++ [p6], vs ++ [.slice p3 p6.length q3], hlt, by go_num, rfl, h71, by omega, HY, HST, Lib.hid (by rw [List.length_append, HD.out]; rfl), Lib.hid (by rw [List.length_append, HV.out]; rfl), by omega, by omega, Lib.hid (fun i hi => ?_), Lib.hid ?_, Lib.hid (hS3.setCell (Nat.le_refl _) _)⟩
          · by_cases hik : i < k
            · obtain ⟨s, hs, hr⟩ := HP.out i (by rw [HD.out]; exact hik)
              refine ⟨s, by rw [List.getElem?_append_left (by rw [HV.out]; exact hik)]; exact hs, ?_⟩
              rw [List.getElem_append_left (by rw [HD.out]; exact hik)]
              exact (hr.below HQ3.out).put (Nat.lt_succ_self _)
            · have hi2 : i = k := by rw [List.length_append, HD.out] at hi; simp at hi; omega
              subst hi2
              refine ⟨.slice p3 p6.length q3, by rw [List.getElem?_append_right (by rw [HV.out]; exact Nat.le_refl _), HV.out, Nat.sub_self]; rfl, ?_⟩
              have e : (done ++ [p6])[i]'hi = p6 := by rw [List.getElem_append_right (by rw [HD.out]; exact Nat.le_refl _)]; simp [HD.out]
              rw [e]
              exact ho.put (Nat.lt_succ_self _)
          · have := HM3.out.setCell k (.slice p3 p6.length q3)
            have e := HPA.out (.slice p3 p6.length q3) (by rw [HV.out]; exact hlt)
            rw [HV.out] at e
            rw [e] at this
            exact this
        case measure => simp [intOf]; omega
    · obtain rfl : k = c := by omega
      go_wp2
      go_ret
      rw [HC.out]
      have e1 : done = cutS k l := by have := HS.out; rw [Nat.sub_self] at this; simpa [cutS] using this
      refine ⟨.slice (some ⟨w.heap.size, 0, none⟩) k k, rfl, ⟨some ⟨w.heap.size, 0, none⟩, k, by rw [cutS_len], by rw [cutS_len]; exact Nat.le_refl _, by unfold maxLen; omega, fun _ => ⟨w.heap.size, 0, rfl, HM.out.lt, fun i hi => ?_⟩⟩, HB.out⟩
      rw [← e1] at hi
      obtain ⟨s, hs, hr⟩ := HP.out i hi
      obtain ⟨hi2, hs2⟩ := List.getElem?_eq_some_iff.1 hs
      refine ⟨s, by rw [Nat.zero_add]; exact HM.out.c0 i _ (by rw [pcsA_get vs k i hi2, hs2]), ?_⟩
      have := hr.lower (Nat.le_succ _)
      simpa [e1] using this

theorem infoSL : (Try.prog.info? 41).map (fun i => (i.zero, i.size, i.bytes)) = some (some (.slice none 0 0), 1, 24) := by kernel_rfl
set_option maxHeartbeats 4000000 in
theorem cutS_w (v : Value) (l : List Sm) (m : Int) (w : World) (h : IsRow 0 encSm 4 w v l) (hl : l.length ≤ 1000000) (hm : m ≤ 1000000) (hm0 : -1000000 ≤ m) :
    Calls Try.prog 29 #[v, .int .i64 m] w fun e w' => ∃ v', e = .returned v' ∧ IsPcs w.heap.size encSm 4 w' v' (cutL l m) ∧ Below w.heap.size w w' := by
  have mixed := mixedA
  have H := Lib.hid h
  obtain ⟨a, cap, rfl, hle, hcm, hne⟩ := h
  unfold maxLen at hcm
  clear hne
  by_cases hm1 : m < 1
  · have HC : Hid (cutL l m = []) := Lib.hid (by unfold cutL; rw [if_pos (.inl hm1)])
    generalize cutL l m = L at *
    go_enter Try.func29, Try.ntmps29
    go_wp2
    go_ret
    rw [HC.out]
    exact ⟨_, rfl, IsPcs.nil _ _ _ _, Below.refl _ _⟩
  by_cases hl0 : l.length = 0
  · have HC : Hid (cutL l m = []) := Lib.hid (by unfold cutL; rw [if_pos (.inr (List.length_eq_zero_iff.1 hl0))])
    generalize cutL l m = L at *
    rw [hl0] at *
    go_enter Try.func29, Try.ntmps29
    go_wp2
    go_ret
    rw [HC.out]
    exact ⟨_, rfl, IsPcs.nil _ _ _ _, Below.refl _ _⟩
  obtain ⟨mn, rfl⟩ : ∃ mn : Nat, m = (mn : Int) := ⟨m.toNat, by omega⟩
  have hlz : 0 < (l.length : Int) := by omega
  have hd0 : ((l.length : Int) == 0) = false := by rw [beq_eq_false_iff_ne]; omega
  have HQ := Lib.hid (fun wx => quot_w l.length mn wx (by omega) hl (by omega) (by omega))
  obtain ⟨c, hc⟩ : ∃ c, c = upN l.length mn := ⟨_, rfl⟩
  have hc1 : 1 ≤ c := by rw [hc]; unfold upN; exact Nat.le_add_left _ _
  have hc2 : c ≤ l.length := by rw [hc]; unfold upN; have := Nat.div_le_self (l.length - 1) mn; omega
  have HC : Hid (cutL l (mn : Int) = cutS c l) := Lib.hid (by unfold cutL; rw [if_neg (by rintro (h | h); omega; subst h; exact hl0 rfl), hc]; rfl)
  rw [← hc] at HQ
  generalize cutL l (mn : Int) = L at *
  obtain ⟨i0, hi, hz0, hz1, hz2⟩ := info_parts infoSL
  clear hc hl0
  go_enter Try.func29, Try.ntmps29
  go_wp2_with (first
    | (go_at_call 26; refine (HQ.out _).mono ?_; rintro e w2 ⟨rfl, rfl⟩)
    | (at_make; refine wpList_make_full _ rfl _ _ 82 rfl w.heap.size 41 i0 (.slice none 0 0) 1 Try.underlying82 hi hz0 hz1 .i64 .i64 _ _ c rfl rfl rfl rfl (by rw [hz2]; omega) (by unfold maxLen; omega) (Nat.le_refl _) ?_; intro w1 hown1 hgrow1))
  have HB1 : Hid (Below w.heap.size w w1) := Lib.hid (Below.grown (Below.refl _ _) hgrow1 (Nat.le_refl _) (fun k hk => by cases hk))
  have hmk := own_blkP hown1
  rw [made_pcs] at hmk
  have HM1 := Lib.hid hmk.1
  clear hown1 hgrow1 hmk
  go_loopw [0, 23] (fun lv i wr => ∃ (k : Nat) (a' : Option Addr) (c' : Nat) (rem : List Sm) (done : List (List Sm)) (vs : List Value), k ≤ c ∧ i = .int .i64 k ∧ lv = .slice a' rem.length c' ∧ rem.length ≤ c' ∧ (c' : Int) ≤ 9223372036854775807 ∧ Hid (IsRow 0 encSm 4 w (.slice a' rem.length c') rem) ∧ Hid (done ++ cutS (c - k) rem = cutS c l) ∧ Hid (done.length = k) ∧ Hid (vs.length = k) ∧ c - k ≤ rem.length ∧ rem.length ≤ 1000000 ∧ Hid (∀ i (h : i < done.length), ∃ s, vs[i]? = some s ∧ IsRow (w.heap.size + 1) encSm 4 wr s done[i]) ∧ Hid (Blk wr w.heap.size 41 (pcsA vs c)) ∧ Hid (Below w.heap.size w wr)) (fun _ i _ => c - (intOf i).toNat)
  case atStart => exact ⟨0, a, cap, l, [], [], Nat.zero_le _, rfl, rfl, hle, by omega, H, Lib.hid rfl, Lib.hid rfl, Lib.hid rfl, hc2, hl, Lib.hid (fun i h => absurd h (by simp)), HM1, HB1⟩
  case round =>
    obtain ⟨k, a', c', rem, done, vs, hk, rfl, rfl, hrc, hcc, HR, HS, HD, HV, hcr, hrl, HP, HM, HB⟩ := hrel
    by_cases hlt : k < c
    · have hltz : (k : Int) < (c : Int) := by omega
      have hroom := cut_room (c - k - 1) rem.length (by omega)
      rw [show c - k - 1 + 1 = c - k by omega] at hroom
      have HST := Lib.hid (cut_step HS.out hlt)
      have hck : IntKind.i64.wrap ((c : Int) - (k : Int)) = ((c - k : Nat) : Int) := by rw [IntWalk.i64_in _ (by omega)]; omega
      have HQ2 := Lib.hid (fun wx => quot_w rem.length (c - k) wx (by omega) hrl (by omega) (by omega))
      generalize upN rem.length (c - k) = sz at *
      obtain ⟨hs1, hs2, hs3⟩ := hroom
      have hsl := sliceHS a' rem.length c' sz (by omega)
      have hsr := sliceLS a' rem.length c' sz (by omega)
      have HX : Hid (IsRow 0 encSm 4 w (sliced a' 0 sz c' 4) (rem.take sz)) := Lib.hid (by have := HR.out.sliced 0 sz (Nat.zero_le _) hs2; rwa [List.drop_zero] at this)
      have HY : Hid (IsRow 0 encSm 4 w (sliced a' sz rem.length c' 4) (rem.drop sz)) := Lib.hid (by have := HR.out.sliced sz rem.length hs2 (Nat.le_refl _); rwa [List.take_length] at this)
      obtain ⟨a6, c6, hx6, h61, h62, -⟩ := HX.out
      obtain ⟨a7, c7, hx7, h71, h72, -⟩ := HY.out
      rw [hx6] at HX hsl
      rw [hx7] at HY hsr
      have hl6 : (rem.take sz).length ≤ 1000000 := by rw [List.length_take]; omega
      have Hl7 : Hid ((rem.drop sz).length = rem.length - sz) := Lib.hid List.length_drop
      unfold maxLen at h72
      have HC6 := Lib.hid (fun wx (hx : Below w.heap.size w wx) => cloneS_w 0 _ _ wx (HX.out.below hx) hl6)
      have HPA := Lib.hid (pcsA_set vs c)
      generalize rem.take sz = p6 at *
      generalize rem.drop sz = r7 at *
      obtain ⟨u0, hu0⟩ := pcsA_at vs c k hlt
      have hget := HM.out.c0 k _ hu0
      clear hx6 hx7 hs1 hl6
      go_wp2_with (first
        | (go_at_call 26; refine (HQ2.out _).mono ?_; rintro e w2 ⟨rfl, rfl⟩)
        | fail)
      go_region_with
        (first
          | (go_at_call 40; (refine (HC6.out _ (by first | exact HB.out | exact HB.out.drew)).mono ?_); rintro e w3 ⟨v3, rfl, hown3, hb3⟩; obtain ⟨p3, q3, rfl⟩ := own_slice hown3; have hq3 : Below wr.heap.size wr w3 := ((Below.refl wr.heap.size wr).drew).trans hb3; have hS3 : Below w.heap.size w w3 := HB.out.trans (hq3.mono HB.out.size); have hm3 := HM.out.below hq3 HM.out.lt; have c3 := hm3.c0 k _ hu0; have f3 := hm3.free k)
          | fail "no arm")
      all_goals
        have HO3 := Lib.hid hown3
        have HQ3 := Lib.hid hq3
        have HM3 := Lib.hid hm3
        clear hown3 hq3 hm3 hb3
        go_wp2
        go_roundw
        case rel =>
          have hl7 := Hl7.out
          have hw := HM.out.lt
          have ho : IsRow (w.heap.size + 1) encSm 4 w3 (.slice p3 p6.length q3) p6 := (IsRow.owned lenS HO3.out).lower (by show w.heap.size + 1 ≤ wr.heap.size; exact hw)
          refine ⟨k + 1, a7, c7, r7, done ++ [p6], vs ++ [.slice p3 p6.length q3], hlt, by go_num, rfl, h71, by omega, HY, HST, Lib.hid (by rw [List.length_append, HD.out]; rfl), Lib.hid (by rw [List.length_append, HV.out]; rfl), by omega, by omega, Lib.hid (fun i hi => ?_), Lib.hid ?_, Lib.hid (hS3.setCell (Nat.le_refl _) _)⟩
          · by_cases hik : i < k
            · obtain ⟨s, hs, hr⟩ := HP.out i (by rw [HD.out]; exact hik)
              refine ⟨s, by rw [List.getElem?_append_left (by rw [HV.out]; exact hik)]; exact hs, ?_⟩
              rw [List.getElem_append_left (by rw [HD.out]; exact hik)]
              exact (hr.below HQ3.out).put (Nat.lt_succ_self _)
            · have hi2 : i = k := by rw [List.length_append, HD.out] at hi; simp at hi; omega
              subst hi2
              refine ⟨.slice p3 p6.length q3, by rw [List.getElem?_append_right (by rw [HV.out]; exact Nat.le_refl _), HV.out, Nat.sub_self]; rfl, ?_⟩
              have e : (done ++ [p6])[i]'hi = p6 := by rw [List.getElem_append_right (by rw [HD.out]; exact Nat.le_refl _)]; simp [HD.out]
              rw [e]
              exact ho.put (Nat.lt_succ_self _)
          · have := HM3.out.setCell k (.slice p3 p6.length q3)
            have e := HPA.out (.slice p3 p6.length q3) (by rw [HV.out]; exact hlt)
            rw [HV.out] at e
            rw [e] at this
            exact this
        case measure => simp [intOf]; omega
    · obtain rfl : k = c := by omega
      go_wp2
      go_ret
      rw [HC.out]
      have e1 : done = cutS k l := by have := HS.out; rw [Nat.sub_self] at this; simpa [cutS] using this
      refine ⟨.slice (some ⟨w.heap.size, 0, none⟩) k k, rfl, ⟨some ⟨w.heap.size, 0, none⟩, k, by rw [cutS_len], by rw [cutS_len]; exact Nat.le_refl _, by unfold maxLen; omega, fun _ => ⟨w.heap.size, 0, rfl, HM.out.lt, fun i hi => ?_⟩⟩, HB.out⟩
      rw [← e1] at hi
      obtain ⟨s, hs, hr⟩ := HP.out i hi
      obtain ⟨hi2, hs2⟩ := List.getElem?_eq_some_iff.1 hs
      refine ⟨s, by rw [Nat.zero_add]; exact HM.out.c0 i _ (by rw [pcsA_get vs k i hi2, hs2]), ?_⟩
      have := hr.lower (Nat.le_succ _)
      simpa [e1] using this

theorem infoTL : (Try.prog.info? 35).map (fun i => (i.zero, i.size, i.bytes)) = some (some (.slice none 0 0), 1, 24) := by kernel_rfl
set_option maxHeartbeats 4000000 in
theorem cutT_w (v : Value) (l : List Bs) (m : Int) (w : World) (h : IsRow 0 encT 1 w v l) (hl : l.length ≤ 1000000) (hm : m ≤ 1000000) (hm0 : -1000000 ≤ m) :
    Calls Try.prog 30 #[v, .int .i64 m] w fun e w' => ∃ v', e = .returned v' ∧ IsPcs w.heap.size encT 1 w' v' (cutL l m) ∧ Below w.heap.size w w' := by
  have mixed := mixedA
  have H := Lib.hid h
  obtain ⟨a, cap, rfl, hle, hcm, hne⟩ := h
  unfold maxLen at hcm
  clear hne
  by_cases hm1 : m < 1
  · have HC : Hid (cutL l m = []) := Lib.hid (by unfold cutL; rw [if_pos (.inl hm1)])
    generalize cutL l m = L at *
    go_enter Try.func30, Try.ntmps30
    go_wp2
    go_ret
    rw [HC.out]
    exact ⟨_, rfl, IsPcs.nil _ _ _ _, Below.refl _ _⟩
  by_cases hl0 : l.length = 0
  · have HC : Hid (cutL l m = []) := Lib.hid (by unfold cutL; rw [if_pos (.inr (List.length_eq_zero_iff.1 hl0))])
    generalize cutL l m = L at *
    rw [hl0] at *
    go_enter Try.func30, Try.ntmps30
    go_wp2
    go_ret
    rw [HC.out]
    exact ⟨_, rfl, IsPcs.nil _ _ _ _, Below.refl _ _⟩
  obtain ⟨mn, rfl⟩ : ∃ mn : Nat, m = (mn : Int) := ⟨m.toNat, by omega⟩
  have hlz : 0 < (l.length : Int) := by omega
  have hd0 : ((l.length : Int) == 0) = false := by rw [beq_eq_false_iff_ne]; omega
  have HQ := Lib.hid (fun wx => quot_w l.length mn wx (by omega) hl (by omega) (by omega))
  obtain ⟨c, hc⟩ : ∃ c, c = upN l.length mn := ⟨_, rfl⟩
  have hc1 : 1 ≤ c := by rw [hc]; unfold upN; exact Nat.le_add_left _ _
  have hc2 : c ≤ l.length := by rw [hc]; unfold upN; have := Nat.div_le_self (l.length - 1) mn; omega
  have HC : Hid (cutL l (mn : Int) = cutS c l) := Lib.hid (by unfold cutL; rw [if_neg (by rintro (h | h); omega; subst h; exact hl0 rfl), hc]; rfl)
  rw [← hc] at HQ
  generalize cutL l (mn : Int) = L at *
  obtain ⟨i0, hi, hz0, hz1, hz2⟩ := info_parts infoTL
  clear hc hl0
  go_enter Try.func30, Try.ntmps30
  go_wp2_with (first
    | (go_at_call 26; refine (HQ.out _).mono ?_; rintro e w2 ⟨rfl, rfl⟩)
    | (at_make; refine wpList_make_full _ rfl _ _ 84 rfl w.heap.size 35 i0 (.slice none 0 0) 1 Try.underlying84 hi hz0 hz1 .i64 .i64 _ _ c rfl rfl rfl rfl (by rw [hz2]; omega) (by unfold maxLen; omega) (Nat.le_refl _) ?_; intro w1 hown1 hgrow1))
  have HB1 : Hid (Below w.heap.size w w1) := Lib.hid (Below.grown (Below.refl _ _) hgrow1 (Nat.le_refl _) (fun k hk => by cases hk))
  have hmk := own_blkP hown1
  rw [made_pcs] at hmk
  have HM1 := Lib.hid hmk.1
  clear hown1 hgrow1 hmk
  go_loopw [0, 23] (fun lv i wr => ∃ (k : Nat) (a' : Option Addr) (c' : Nat) (rem : List Bs) (done : List (List Bs)) (vs : List Value), k ≤ c ∧ i = .int .i64 k ∧ lv = .slice a' rem.length c' ∧ rem.length ≤ c' ∧ (c' : Int) ≤ 9223372036854775807 ∧ Hid (IsRow 0 encT 1 w (.slice a' rem.length c') rem) ∧ Hid (done ++ cutS (c - k) rem = cutS c l) ∧ Hid (done.length = k) ∧ Hid (vs.length = k) ∧ c - k ≤ rem.length ∧ rem.length ≤ 1000000 ∧ Hid (∀ i (h : i < done.length), ∃ s, vs[i]? = some s ∧ IsRow (w.heap.size + 1) encT 1 wr s done[i]) ∧ Hid (Blk wr w.heap.size 35 (pcsA vs c)) ∧ Hid (Below w.heap.size w wr)) (fun _ i _ => c - (intOf i).toNat)
  case atStart => exact ⟨0, a, cap, l, [], [], Nat.zero_le _, rfl, rfl, hle, by omega, H, Lib.hid rfl, Lib.hid rfl, Lib.hid rfl, hc2, hl, Lib.hid (fun i h => absurd h (by simp)), HM1, HB1⟩
  case round =>
    obtain ⟨k, a', c', rem, done, vs, hk, rfl, rfl, hrc, hcc, HR, HS, HD, HV, hcr, hrl, HP, HM, HB⟩ := hrel
    by_cases hlt : k < c
    · have hltz : (k : Int) < (c : Int) := by omega
      have hroom := cut_room (c - k - 1) rem.length (by omega)
      rw [show c - k - 1 + 1 = c - k by omega] at hroom
      have HST := Lib.hid (cut_step HS.out hlt)
      have hck : IntKind.i64.wrap ((c : Int) - (k : Int)) = ((c - k : Nat) : Int) := by rw [IntWalk.i64_in _ (by omega)]; omega
      have HQ2 := Lib.hid (fun wx => quot_w rem.length (c - k) wx (by omega) hrl (by omega) (by omega))
      generalize upN rem.length (c - k) = sz at *
      obtain ⟨hs1, hs2, hs3⟩ := hroom
      have hsl := sliceHT a' rem.length c' sz (by omega)
      have hsr := sliceLT a' rem.length c' sz (by omega)
      have HX : Hid (IsRow 0 encT 1 w (sliced a' 0 sz c' 1) (rem.take sz)) := Lib.hid (by have := HR.out.sliced 0 sz (Nat.zero_le _) hs2; rwa [List.drop_zero] at this)
      have HY : Hid (IsRow 0 encT 1 w (sliced a' sz rem.length c' 1) (rem.drop sz)) := Lib.hid (by have := HR.out.sliced sz rem.length hs2 (Nat.le_refl _); rwa [List.take_length] at this)
      obtain ⟨a6, c6, hx6, h61, h62, -⟩ := HX.out
      obtain ⟨a7, c7, hx7, h71, h72, -⟩ := HY.out
      rw [hx6] at HX hsl
      rw [hx7] at HY hsr
      have hl6 : (rem.take sz).length ≤ 1000000 := by rw [List.length_take]; omega
      have Hl7 : Hid ((rem.drop sz).length = rem.length - sz) := Lib.hid List.length_drop
      unfold maxLen at h72
      have HC6 := Lib.hid (fun wx (hx : Below w.heap.size w wx) => cloneT_w 0 _ _ wx (HX.out.below hx) hl6)
      have HPA := Lib.hid (pcsA_set vs c)
      generalize rem.take sz = p6 at *
      generalize rem.drop sz = r7 at *
      obtain ⟨u0, hu0⟩ := pcsA_at vs c k hlt
      have hget := HM.out.c0 k _ hu0
      clear hx6 hx7 hs1 hl6
      go_wp2_with (first
        | (go_at_call 26; refine (HQ2.out _).mono ?_; rintro e w2 ⟨rfl, rfl⟩)
        | fail)
      go_region_with
        (first
          | (go_at_call 41; (refine (HC6.out _ (by first | exact HB.out | exact HB.out.drew)).mono ?_); rintro e w3 ⟨v3, rfl, hown3, hb3⟩; obtain ⟨p3, q3, rfl⟩ := own_slice hown3; have hq3 : Below wr.heap.size wr w3 := ((Below.refl wr.heap.size wr).drew).trans hb3; have hS3 : Below w.heap.size w w3 := HB.out.trans (hq3.mono HB.out.size); have hm3 := HM.out.below hq3 HM.out.lt; have c3 := hm3.c0 k _ hu0; have f3 := hm3.free k)
          | fail "no arm")
      all_goals
        have HO3 := Lib.hid hown3
        have HQ3 := Lib.hid hq3
        have HM3 := Lib.hid hm3
        clear hown3 hq3 hm3 hb3
        go_wp2
        go_roundw
        case rel =>
          have hl7 := Hl7.out
          have hw := HM.out.lt
          have ho : IsRow (w.heap.size + 1) encT 1 w3 (.slice p3 p6.length q3) p6 := (IsRow.owned lenT HO3.out).lower (by show w.heap.size + 1 ≤ wr.heap.size; exact hw)
          refine ⟨k + 1, a7, c7, r7, done ++ [p6], vs ++ [.slice p3 p6.length q3], hlt, by go_num, rfl, h71, by omega, HY, HST, Lib.hid (by rw [List.length_append, HD.out]; rfl), Lib.hid (by rw [List.length_append, HV.out]; rfl), by omega, by omega, Lib.hid (fun i hi => ?_), Lib.hid ?_, Lib.hid (hS3.setCell (Nat.le_refl _) _)⟩
          · by_cases hik : i < k
            · obtain ⟨s, hs, hr⟩ := HP.out i (by rw [HD.out]; exact hik)
              refine ⟨s, by rw [List.getElem?_append_left (by rw [HV.out]; exact hik)]; exact hs, ?_⟩
              rw [List.getElem_append_left (by rw [HD.out]; exact hik)]
              exact (hr.below HQ3.out).put (Nat.lt_succ_self _)
            · have hi2 : i = k := by rw [List.length_append, HD.out] at hi; simp at hi; omega
              subst hi2
              refine ⟨.slice p3 p6.length q3, by rw [List.getElem?_append_right (by rw [HV.out]; exact Nat.le_refl _), HV.out, Nat.sub_self]; rfl, ?_⟩
              have e : (done ++ [p6])[i]'hi = p6 := by rw [List.getElem_append_right (by rw [HD.out]; exact Nat.le_refl _)]; simp [HD.out]
              rw [e]
              exact ho.put (Nat.lt_succ_self _)
          · have := HM3.out.setCell k (.slice p3 p6.length q3)
            have e := HPA.out (.slice p3 p6.length q3) (by rw [HV.out]; exact hlt)
            rw [HV.out] at e
            rw [e] at this
            exact this
        case measure => simp [intOf]; omega
    · obtain rfl : k = c := by omega
      go_wp2
      go_ret
      rw [HC.out]
      have e1 : done = cutS k l := by have := HS.out; rw [Nat.sub_self] at this; simpa [cutS] using this
      refine ⟨.slice (some ⟨w.heap.size, 0, none⟩) k k, rfl, ⟨some ⟨w.heap.size, 0, none⟩, k, by rw [cutS_len], by rw [cutS_len]; exact Nat.le_refl _, by unfold maxLen; omega, fun _ => ⟨w.heap.size, 0, rfl, HM.out.lt, fun i hi => ?_⟩⟩, HB.out⟩
      rw [← e1] at hi
      obtain ⟨s, hs, hr⟩ := HP.out i hi
      obtain ⟨hi2, hs2⟩ := List.getElem?_eq_some_iff.1 hs
      refine ⟨s, by rw [Nat.zero_add]; exact HM.out.c0 i _ (by rw [pcsA_get vs k i hi2, hs2]), ?_⟩
      have := hr.lower (Nat.le_succ _)
      simpa [e1] using this

theorem infoIL : (Try.prog.info? 40).map (fun i => (i.zero, i.size, i.bytes)) = some (some (.slice none 0 0), 1, 24) := by kernel_rfl
set_option maxHeartbeats 4000000 in
theorem cutI_w (v : Value) (l : List Int) (m : Int) (w : World) (h : IsRow 0 encI 1 w v l) (hl : l.length ≤ 1000000) (hm : m ≤ 1000000) (hm0 : -1000000 ≤ m) :
    Calls Try.prog 32 #[v, .int .i64 m] w fun e w' => ∃ v', e = .returned v' ∧ IsPcs w.heap.size encI 1 w' v' (cutL l m) ∧ Below w.heap.size w w' := by
  have mixed := mixedA
  have H := Lib.hid h
  obtain ⟨a, cap, rfl, hle, hcm, hne⟩ := h
  unfold maxLen at hcm
  clear hne
  by_cases hm1 : m < 1
  · have HC : Hid (cutL l m = []) := Lib.hid (by unfold cutL; rw [if_pos (.inl hm1)])
    generalize cutL l m = L at *
    go_enter Try.func32, Try.ntmps32
    go_wp2
    go_ret
    rw [HC.out]
    exact ⟨_, rfl, IsPcs.nil _ _ _ _, Below.refl _ _⟩
  by_cases hl0 : l.length = 0
  · have HC : Hid (cutL l m = []) := Lib.hid (by unfold cutL; rw [if_pos (.inr (List.length_eq_zero_iff.1 hl0))])
    generalize cutL l m = L at *
    rw [hl0] at *
    go_enter Try.func32, Try.ntmps32
    go_wp2
    go_ret
    rw [HC.out]
    exact ⟨_, rfl, IsPcs.nil _ _ _ _, Below.refl _ _⟩
  obtain ⟨mn, rfl⟩ : ∃ mn : Nat, m = (mn : Int) := ⟨m.toNat, by omega⟩
  have hlz : 0 < (l.length : Int) := by omega
  have hd0 : ((l.length : Int) == 0) = false := by rw [beq_eq_false_iff_ne]; omega
  have HQ := Lib.hid (fun wx => quot_w l.length mn wx (by omega) hl (by omega) (by omega))
  obtain ⟨c, hc⟩ : ∃ c, c = upN l.length mn := ⟨_, rfl⟩
  have hc1 : 1 ≤ c := by rw [hc]; unfold upN; exact Nat.le_add_left _ _
  have hc2 : c ≤ l.length := by rw [hc]; unfold upN; have := Nat.div_le_self (l.length - 1) mn; omega
  have HC : Hid (cutL l (mn : Int) = cutS c l) := Lib.hid (by unfold cutL; rw [if_neg (by rintro (h | h); omega; subst h; exact hl0 rfl), hc]; rfl)
  rw [← hc] at HQ
  generalize cutL l (mn : Int) = L at *
  obtain ⟨i0, hi, hz0, hz1, hz2⟩ := info_parts infoIL
  clear hc hl0
  go_enter Try.func32, Try.ntmps32
  go_wp2_with (first
    | (go_at_call 26; refine (HQ.out _).mono ?_; rintro e w2 ⟨rfl, rfl⟩)
    | (at_make; refine wpList_make_full _ rfl _ _ 87 rfl w.heap.size 40 i0 (.slice none 0 0) 1 Try.underlying87 hi hz0 hz1 .i64 .i64 _ _ c rfl rfl rfl rfl (by rw [hz2]; omega) (by unfold maxLen; omega) (Nat.le_refl _) ?_; intro w1 hown1 hgrow1))
  have HB1 : Hid (Below w.heap.size w w1) := Lib.hid (Below.grown (Below.refl _ _) hgrow1 (Nat.le_refl _) (fun k hk => by cases hk))
  have hmk := own_blkP hown1
  rw [made_pcs] at hmk
  have HM1 := Lib.hid hmk.1
  clear hown1 hgrow1 hmk
  go_loopw [0, 23] (fun lv i wr => ∃ (k : Nat) (a' : Option Addr) (c' : Nat) (rem : List Int) (done : List (List Int)) (vs : List Value), k ≤ c ∧ i = .int .i64 k ∧ lv = .slice a' rem.length c' ∧ rem.length ≤ c' ∧ (c' : Int) ≤ 9223372036854775807 ∧ Hid (IsRow 0 encI 1 w (.slice a' rem.length c') rem) ∧ Hid (done ++ cutS (c - k) rem = cutS c l) ∧ Hid (done.length = k) ∧ Hid (vs.length = k) ∧ c - k ≤ rem.length ∧ rem.length ≤ 1000000 ∧ Hid (∀ i (h : i < done.length), ∃ s, vs[i]? = some s ∧ IsRow (w.heap.size + 1) encI 1 wr s done[i]) ∧ Hid (Blk wr w.heap.size 40 (pcsA vs c)) ∧ Hid (Below w.heap.size w wr)) (fun _ i _ => c - (intOf i).toNat)
  case atStart => exact ⟨0, a, cap, l, [], [], Nat.zero_le _, rfl, rfl, hle, by omega, H, Lib.hid rfl, Lib.hid rfl, Lib.hid rfl, hc2, hl, Lib.hid (fun i h => absurd h (by simp)), HM1, HB1⟩
  case round =>
    obtain ⟨k, a', c', rem, done, vs, hk, rfl, rfl, hrc, hcc, HR, HS, HD, HV, hcr, hrl, HP, HM, HB⟩ := hrel
    by_cases hlt : k < c
    · have hltz : (k : Int) < (c : Int) := by omega
      have hroom := cut_room (c - k - 1) rem.length (by omega)
      rw [show c - k - 1 + 1 = c - k by omega] at hroom
      have HST := Lib.hid (cut_step HS.out hlt)
      have hck : IntKind.i64.wrap ((c : Int) - (k : Int)) = ((c - k : Nat) : Int) := by rw [IntWalk.i64_in _ (by omega)]; omega
      have HQ2 := Lib.hid (fun wx => quot_w rem.length (c - k) wx (by omega) hrl (by omega) (by omega))
      generalize upN rem.length (c - k) = sz at *
      obtain ⟨hs1, hs2, hs3⟩ := hroom
      have hsl := sliceHI a' rem.length c' sz (by omega)
      have hsr := sliceLI a' rem.length c' sz (by omega)
      have HX : Hid (IsRow 0 encI 1 w (sliced a' 0 sz c' 1) (rem.take sz)) := Lib.hid (by have := HR.out.sliced 0 sz (Nat.zero_le _) hs2; rwa [List.drop_zero] at this)
      have HY : Hid (IsRow 0 encI 1 w (sliced a' sz rem.length c' 1) (rem.drop sz)) := Lib.hid (by have := HR.out.sliced sz rem.length hs2 (Nat.le_refl _); rwa [List.take_length] at this)
      obtain ⟨a6, c6, hx6, h61, h62, -⟩ := HX.out
      obtain ⟨a7, c7, hx7, h71, h72, -⟩ := HY.out
      rw [hx6] at HX hsl
      rw [hx7] at HY hsr
      have hl6 : (rem.take sz).length ≤ 1000000 := by rw [List.length_take]; omega
      have Hl7 : Hid ((rem.drop sz).length = rem.length - sz) := Lib.hid List.length_drop
      unfold maxLen at h72
      have HC6 := Lib.hid (fun wx (hx : Below w.heap.size w wx) => cloneI_w 0 _ _ wx (HX.out.below hx) hl6)
      have HPA := Lib.hid (pcsA_set vs c)
      generalize rem.take sz = p6 at *
      generalize rem.drop sz = r7 at *
      obtain ⟨u0, hu0⟩ := pcsA_at vs c k hlt
      have hget := HM.out.c0 k _ hu0
      clear hx6 hx7 hs1 hl6
      go_wp2_with (first
        | (go_at_call 26; refine (HQ2.out _).mono ?_; rintro e w2 ⟨rfl, rfl⟩)
        | fail)
      go_region_with
        (first
          | (go_at_call 43; (refine (HC6.out _ (by first | exact HB.out | exact HB.out.drew)).mono ?_); rintro e w3 ⟨v3, rfl, hown3, hb3⟩; obtain ⟨p3, q3, rfl⟩ := own_slice hown3; have hq3 : Below wr.heap.size wr w3 := ((Below.refl wr.heap.size wr).drew).trans hb3; have hS3 : Below w.heap.size w w3 := HB.out.trans (hq3.mono HB.out.size); have hm3 := HM.out.below hq3 HM.out.lt; have c3 := hm3.c0 k _ hu0; have f3 := hm3.free k)
          | fail "no arm")
      all_goals
        have HO3 := Lib.hid hown3
        have HQ3 := Lib.hid hq3
        have HM3 := Lib.hid hm3
        clear hown3 hq3 hm3 hb3
        go_wp2
        go_roundw
        case rel =>
          have hl7 := Hl7.out
          have hw := HM.out.lt
          have ho : IsRow (w.heap.size + 1) encI 1 w3 (.slice p3 p6.length q3) p6 := (IsRow.owned lenI HO3.out).lower (by show w.heap.size + 1 ≤ wr.heap.size; exact hw)
          refine ⟨k + 1, a7, c7, r7, done ++ [p6], vs ++ [.slice p3 p6.length q3], hlt, by go_num, rfl, h71, by omega, HY, HST, Lib.hid (by rw [List.length_append, HD.out]; rfl), Lib.hid (by rw [List.length_append, HV.out]; rfl), by omega, by omega, Lib.hid (fun i hi => ?_), Lib.hid ?_, Lib.hid (hS3.setCell (Nat.le_refl _) _)⟩
          · by_cases hik : i < k
            · obtain ⟨s, hs, hr⟩ := HP.out i (by rw [HD.out]; exact hik)
              refine ⟨s, by rw [List.getElem?_append_left (by rw [HV.out]; exact hik)]; exact hs, ?_⟩
              rw [List.getElem_append_left (by rw [HD.out]; exact hik)]
              exact (hr.below HQ3.out).put (Nat.lt_succ_self _)
            · have hi2 : i = k := by rw [List.length_append, HD.out] at hi; simp at hi; omega
              subst hi2
              refine ⟨.slice p3 p6.length q3, by rw [List.getElem?_append_right (by rw [HV.out]; exact Nat.le_refl _), HV.out, Nat.sub_self]; rfl, ?_⟩
              have e : (done ++ [p6])[i]'hi = p6 := by rw [List.getElem_append_right (by rw [HD.out]; exact Nat.le_refl _)]; simp [HD.out]
              rw [e]
              exact ho.put (Nat.lt_succ_self _)
          · have := HM3.out.setCell k (.slice p3 p6.length q3)
            have e := HPA.out (.slice p3 p6.length q3) (by rw [HV.out]; exact hlt)
            rw [HV.out] at e
            rw [e] at this
            exact this
        case measure => simp [intOf]; omega
    · obtain rfl : k = c := by omega
      go_wp2
      go_ret
      rw [HC.out]
      have e1 : done = cutS k l := by have := HS.out; rw [Nat.sub_self] at this; simpa [cutS] using this
      refine ⟨.slice (some ⟨w.heap.size, 0, none⟩) k k, rfl, ⟨some ⟨w.heap.size, 0, none⟩, k, by rw [cutS_len], by rw [cutS_len]; exact Nat.le_refl _, by unfold maxLen; omega, fun _ => ⟨w.heap.size, 0, rfl, HM.out.lt, fun i hi => ?_⟩⟩, HB.out⟩
      rw [← e1] at hi
      obtain ⟨s, hs, hr⟩ := HP.out i hi
      obtain ⟨hi2, hs2⟩ := List.getElem?_eq_some_iff.1 hs
      refine ⟨s, by rw [Nat.zero_add]; exact HM.out.c0 i _ (by rw [pcsA_get vs k i hi2, hs2]), ?_⟩
      have := hr.lower (Nat.le_succ _)
      simpa [e1] using this

end Go.Proofs.Ythpajecigkfajaa
