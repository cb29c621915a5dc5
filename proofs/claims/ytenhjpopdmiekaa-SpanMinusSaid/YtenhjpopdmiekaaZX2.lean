/-
  The walk of the law SpanMinus.
-/
import Derived.Test.YtenhjpopdmiekaaZX1
import Derived.Test.YtenhjpopdmiekaaZF2
namespace Go.Proofs.Ytenhjpopdmiekaa
open Go.RowKit Go.Sort
set_option linter.unusedVariables false

set_option maxRecDepth 100000 in
set_option maxHeartbeats 4000000 in
theorem spanMinus_walk (w : World) (v0 : Value) (l : List Sp) (h0 : IsSpans w v0 l) (v1 : Value) (m : List Sp) (h1 : IsSpans w v1 m) :
    Calls Try.prog 5 #[v0, v1] w fun e w' => e = .returned (.bool true) ∧ Below w.heap.size w w' := by
  have mixed := mixedA
  have hl0 := fun wx (h : Below w.heap.size w wx) => short_w v0 l 8 wx (h0.below h)
  have hm0 := fun wx (h : Below w.heap.size w wx) => short_w v1 m 8 wx (h1.below h)
  have H0 := Lib.hid h0
  have H1 := Lib.hid h1
  clear h0 h1
  cases hS : shortB l 8 with
  | false =>
    rw [hS] at hl0
    have Hl0 := Lib.hid hl0
    clear hl0 hm0 hS
    go_enter Try.func5, Try.ntmps5
    go_wp2_with (first
      | (go_at_call 7; refine (sanity_w _).mono ?_; rintro e w1 ⟨rfl, hb⟩; have Hb1 := Lib.hid hb; clear hb)
      | (go_at_call 8; refine (Hl0.out _ Hb1.out).mono ?_; rintro e w2 ⟨rfl, rfl⟩))
    go_ret
    exact ⟨rfl, Hb1.out⟩
  | true =>
    cases hS2 : shortB m 8 with
    | false =>
      rw [hS] at hl0
      rw [hS2] at hm0
      have Hl0 := Lib.hid hl0
      have Hm0 := Lib.hid hm0
      clear hl0 hm0 hS hS2
      go_enter Try.func5, Try.ntmps5
      go_wp2_with (first
        | (go_at_call 7; refine (sanity_w _).mono ?_; rintro e w1 ⟨rfl, hb⟩; have Hb1 := Lib.hid hb; clear hb)
        | (go_at_call_of 8 (v0); refine (Hl0.out _ Hb1.out).mono ?_; rintro e w2 ⟨rfl, rfl⟩)
        | (go_at_call 8; refine (Hm0.out _ Hb1.out).mono ?_; rintro e w2 ⟨rfl, rfl⟩))
      go_ret
      exact ⟨rfl, Hb1.out⟩
    | true =>
      obtain ⟨hll, hls⟩ := shortB_yes hS
      obtain ⟨hml, hms⟩ := shortB_yes hS2
      rw [hS] at hl0
      rw [hS2] at hm0
      have Hl0 := Lib.hid hl0
      have Hm0 := Lib.hid hm0
      clear hl0 hm0 hS hS2
      have hOl := minus_length l m
      have hTl := minus_length l (minusS l m)
      have Hin := Lib.hid (fun k => minus_inB l m k)
      have Hboth := Lib.hid (both_norm l m)
      have Hleft := Lib.hid (norm_left l m)
      have Hself := Lib.hid (minus_self l)
      have hmin := fun wx (h : Below w.heap.size w wx) => minus_w v0 v1 l m wx (H0.out.below h) (H1.out.below h) (by omega) (by omega)
      generalize minusS l m = O at *
      generalize hT : minusS l O = T at *
      have HT := Lib.hid hT
      have Hmin := Lib.hid hmin
      have Hls := Lib.hid hls
      have Hms := Lib.hid hms
      clear hmin hT hls hms
      go_enter Try.func5, Try.ntmps5
      go_upto_region 4 with (first
        | (go_at_call 7; refine (sanity_w _).mono ?_; rintro e w1 ⟨rfl, hb⟩; have Hb1 := Lib.hid hb; clear hb)
        | (go_at_call_of 8 (v0); refine (Hl0.out _ Hb1.out).mono ?_; rintro e w2 ⟨rfl, rfl⟩)
        | (go_at_call 8; refine (Hm0.out _ Hb1.out).mono ?_; rintro e w2 ⟨rfl, rfl⟩))
      clear Hl0 Hm0
      go_wp2_with fail
      refine (Hmin.out _ Hb1.out).mono ?_
      rintro e w2 ⟨vO, rfl, hown, hb2⟩
      have hO2 := IsSpans.owned hown
      have Hb2 : Hid (Below w.heap.size w w2) := Lib.hid (Hb1.out.trans (hb2.mono Hb1.out.size))
      have HO2 := Lib.hid hO2
      clear hown hb2 hO2 Hmin
      go_wp2_with fail
      refine (near_w v0 l _ (H0.out.below Hb2.out) (by omega) (fun s hs => by have := Hls.out s hs; omega)).mono ?_
      rintro e w3 ⟨vK1, ks1, rfl, hown3, hk1, hb3⟩
      have Hb3 : Hid (Below w.heap.size w w3) := Lib.hid (Hb2.out.trans (hb3.mono Hb2.out.size))
      have Hc3 := Lib.hid hb3
      have Hw3 := Lib.hid hown3
      clear hb3 hown3
      go_wp2_with fail
      refine (near_w v1 m _ (H1.out.below Hb3.out) (by omega) (fun s hs => by have := Hms.out s hs; omega)).mono ?_
      rintro e w4 ⟨vK2, ks2, rfl, hown4, hk2, hb4⟩
      have Hc4 : Hid (Below w2.heap.size w2 w4) := Lib.hid (Hc3.out.trans (hb4.mono Hc3.out.size))
      have Hw4 := Lib.hid (owns_below Hw3.out hb4)
      have Hs4 := Lib.hid (IsStrs.owned hown4)
      clear hown4 hb4 Hw3 Hb3 Hc3
      go_upto_region 6 with (at_builtin; refine append_strs rfl _ _ rfl w2.heap.size _ ks1 rfl Hw4.out _ ks2 rfl Hs4.out (by omega) Hc4.out.size ?_; intro vK w5 hown5 hbel5; have Hc5 : Hid (Below w2.heap.size w2 w5) := Lib.hid (Hc4.out.trans hbel5); have Hk5 := Lib.hid (IsStrs.owned hown5); clear hown5 hbel5)
      have hkl : (ks1 ++ ks2).length ≤ 4000 := by rw [List.length_append]; omega
      clear Hw4 Hs4 Hc4
      generalize ks1 ++ ks2 = ks at *
      obtain ⟨_, _, capK, pK, rfl, _⟩ := Hk5.out.form
      obtain ⟨_, _, capO, pO, rfl, hO1, hO2', _⟩ := HO2.out.form
      unfold maxLen at hO2'
      have Hb5 : Hid (Below w.heap.size w w5) := Lib.hid (Hb2.out.trans (Hc5.out.mono Hb2.out.size))
      have hOl16 : O.length ≤ 16 := by omega
      go_wp2
      go_loopw [8] (fun i wr => ∃ k : Nat, k ≤ ks.length ∧ i = .int .i64 k ∧ Below w5.heap.size w5 wr) (fun i _ => ks.length - (intOf i).toNat)
      case atStart => exact ⟨0, Nat.zero_le _, rfl, Below.refl _ _⟩
      case round =>
        obtain ⟨k, hk, rfl, hbel⟩ := hrel
        obtain ⟨g, o, cap', p', he, hc1, hc2, hkey⟩ := keysG Hk5.out hbel
        injection he with he1 he2 he3
        subst he1 he3
        clear he2
        have Hbel := Lib.hid hbel
        have hbw : Below w.heap.size w wr := Hb5.out.trans (hbel.mono Hb5.out.size)
        have hb2r : Below w2.heap.size w2 wr := Hc5.out.trans (hbel.mono Hc5.out.size)
        have Hl := Lib.hid (H0.out.below hbw)
        have Hm := Lib.hid (H1.out.below hbw)
        have HO := Lib.hid (HO2.out.below hb2r)
        have Hbw := Lib.hid hbw
        have Hb2r := Lib.hid hb2r
        clear hbel hbw hb2r
        by_cases hlt : k < ks.length
        · have hltz : (k : Int) < (ks.length : Int) := by omega
          obtain ⟨rfl, ck⟩ := hkey k hlt
          have hin := Hin.out ks[k]
          generalize ks[k] = key at *
          have hsO := fun n os => in_w (.slice pO O.length capO) O key (grow (wr.drewN n) os) (HO.out.below (below_grown wr n os (Nat.le_refl _)))
          have hsl := fun n os => in_w v0 l key (grow (wr.drewN n) os) (Hl.out.below (below_grown wr n os (Nat.le_refl _)))
          have hsm := fun n os => in_w v1 m key (grow (wr.drewN n) os) (Hm.out.below (below_grown wr n os (Nat.le_refl _)))
          rw [hin] at hsO
          clear hin hkey
          cases e1 : inB l key <;> cases e2 : inB m key
          all_goals
            simp only [e1, e2] at hsO hsl hsm
            clear e1 e2
            go_wp2_with fail
            refine wp_region_quiet_grown mixed (by kernel_rfl) ?_
            repeat (first | go_big_quiet_skip | (refine wpQuiet_step (fun K hK => ?_); have HK := Lib.hid hK; clear hK; go_simp; first | (refine HK.out _ ?_; clear HK K) | (apply Exists.intro; refine ⟨fun _ => ?_, HK.out _ ?_⟩; (first | (go_at_call_of 33 (Value.slice pO O.length capO); refine calls_grown (hsO _ _)) | (go_at_call_of 33 (v0); refine calls_grown (hsl _ _)) | (go_at_call_of 33 (v1); refine calls_grown (hsm _ _))); clear HK K)))
            refine wpQuiet_nil ?_
            intro _ hw'
            obtain ⟨⟨nq, osq⟩, hw''⟩ := hw'
            subst hw''
            have HBn := Lib.hid (Below.next Hbel.out (Nat.le_refl _) (below_grown (B := wr.heap.size) wr nq osq (Nat.le_refl _)))
            go_wp2
            go_roundw
            case rel => exact ⟨k + 1, by omega, by go_num, HBn.out⟩
            case measure => simp [intOf]; omega
        · have hltz : (ks.length : Int) ≤ (k : Int) := by omega
          have hOz : (O.length : Int) ≤ 17 := by omega
          clear hkey
          go_wp2_with fail
          refine (minus_w v0 (.slice pO O.length capO) l O _ Hl.out HO.out (by omega) (by omega)).mono ?_
          rw [HT.out]
          rintro e w6 ⟨vT, rfl, hown6, hb6⟩
          have Hbw6 : Hid (Below w.heap.size w w6) := Lib.hid (Hbw.out.trans (hb6.mono Hbw.out.size))
          have Hb26 : Hid (Below w2.heap.size w2 w6) := Lib.hid (Hb2r.out.trans (hb6.mono Hb2r.out.size))
          have HT6 := Lib.hid (IsSpans.owned hown6)
          clear hown6 hb6
          go_upto_region 15 with (first
            | (at_builtin; refine append_spans rfl _ _ rfl w6.heap.size _ [] rfl (own_emptyS w6 w6.heap.size (Nat.le_refl _)) _ T rfl (HT6.out.below (below_box _)) (by simp; omega) (by simp) ?_; intro vB1 w7 hown7 hbel7; have Hc7 : Hid (Below w6.heap.size w6 w7) := Lib.hid ((below_box _).trans hbel7); have HB7 := Lib.hid hown7; clear hown7 hbel7)
            | (at_builtin; refine append_spans rfl _ _ rfl w6.heap.size _ _ rfl HB7.out _ O rfl (HO2.out.below (Hb26.out.trans (Hc7.out.mono Hb26.out.size))) (by simp; omega) Hc7.out.size ?_; intro vB w8 hown8 hbel8; have Hc8 : Hid (Below w6.heap.size w6 w8) := Lib.hid (Hc7.out.trans hbel8); have HB8 := Lib.hid (IsSpans.owned hown8); clear hown8 hbel8))
          have hc8 := Hc8.out
          have Hbw8 : Hid (Below w.heap.size w w8) := Lib.hid (Hbw6.out.trans (hc8.mono Hbw6.out.size))
          have Hb28 : Hid (Below w2.heap.size w2 w8) := Lib.hid (Hb26.out.trans (hc8.mono Hb26.out.size))
          have hB8 : IsSpans w8 vB (T ++ O) := by have h := HB8.out; simpa using h
          have HBB := Lib.hid hB8
          clear hc8 hB8 HB8 Hc8 Hc7 HB7
          have hboth := Hboth.out
          clear Hboth
          go_wp2_with fail
          refine (norm_w vB (T ++ O) _ HBB.out (by rw [List.length_append]; omega)).mono ?_
          rw [hboth]
          rintro e w9 ⟨vN, rfl, hown9, hb9⟩
          have Hbw9 : Hid (Below w.heap.size w w9) := Lib.hid (Hbw8.out.trans (hb9.mono Hbw8.out.size))
          have Hb29 : Hid (Below w2.heap.size w2 w9) := Lib.hid (Hb28.out.trans (hb9.mono Hb28.out.size))
          have HN9 := Lib.hid (IsSpans.owned hown9)
          clear hown9 hb9 hboth
          go_wp2_with fail
          refine (norm_w v0 l _ (H0.out.below Hbw9.out) (by omega)).mono ?_
          rintro e w10 ⟨vM, rfl, hown10, hb10⟩
          have Hbw10 : Hid (Below w.heap.size w w10) := Lib.hid (Hbw9.out.trans (hb10.mono Hbw9.out.size))
          have Hb210 : Hid (Below w2.heap.size w2 w10) := Lib.hid (Hb29.out.trans (hb10.mono Hb29.out.size))
          have HN10 := Lib.hid (HN9.out.below hb10)
          have HM10 := Lib.hid (IsSpans.owned hown10)
          clear hown10 hb10
          go_wp2_with fail
          refine (same_w vN vM _ _ _ HN10.out HM10.out).mono ?_
          rw [decide_eq_true (rfl : normS l = normS l)]
          rintro e w11 ⟨rfl, hg11⟩
          have hb11 := hg11.below (B := w10.heap.size) (Nat.le_refl _)
          have Hbw11 : Hid (Below w.heap.size w w11) := Lib.hid (Hbw10.out.trans (hb11.mono Hbw10.out.size))
          have Hb211 : Hid (Below w2.heap.size w2 w11) := Lib.hid (Hb210.out.trans (hb11.mono Hb210.out.size))
          clear hg11 hb11
          go_wp2_with fail
          refine (norm_w (.slice pO O.length capO) O _ (HO2.out.below Hb211.out) (by omega)).mono ?_
          rw [Hleft.out]
          rintro e w12 ⟨vP, rfl, hown12, hb12⟩
          have Hbw12 : Hid (Below w.heap.size w w12) := Lib.hid (Hbw11.out.trans (hb12.mono Hbw11.out.size))
          have Hb212 : Hid (Below w2.heap.size w2 w12) := Lib.hid (Hb211.out.trans (hb12.mono Hb211.out.size))
          have HP12 := Lib.hid (IsSpans.owned hown12)
          clear hown12 hb12
          go_wp2_with fail
          refine (same_w vP (.slice pO O.length capO) _ _ _ HP12.out (HO2.out.below Hb212.out)).mono ?_
          rw [decide_eq_true (rfl : O = O)]
          rintro e w13 ⟨rfl, hg13⟩
          have hb13 := hg13.below (B := w12.heap.size) (Nat.le_refl _)
          have Hbw13 : Hid (Below w.heap.size w w13) := Lib.hid (Hbw12.out.trans (hb13.mono Hbw12.out.size))
          have Hb213 : Hid (Below w2.heap.size w2 w13) := Lib.hid (Hb212.out.trans (hb13.mono Hb212.out.size))
          clear hg13 hb13
          go_wp2_with fail
          refine (minus_w v0 v0 l l _ (H0.out.below Hbw13.out) (H0.out.below Hbw13.out) (by omega) (by omega)).mono ?_
          rw [Hself.out]
          rintro e w14 ⟨vQ, rfl, hown14, hb14⟩
          obtain ⟨_, _, capQ, pQ, rfl, _⟩ := (IsSpans.owned hown14).form
          have Hbw14 : Hid (Below w.heap.size w w14) := Lib.hid (Hbw13.out.trans (hb14.mono Hbw13.out.size))
          have Hb214 : Hid (Below w2.heap.size w2 w14) := Lib.hid (Hb213.out.trans (hb14.mono Hb213.out.size))
          clear hown14 hb14
          go_wp2_with fail
          refine (minus_w v0 (.slice none 0 0) l [] _ (H0.out.below Hbw14.out) (IsSpans.nil _) (by omega) (by simp)).mono ?_
          rintro e w15 ⟨vR, rfl, hown15, hb15⟩
          have Hbw15 : Hid (Below w.heap.size w w15) := Lib.hid (Hbw14.out.trans (hb15.mono Hbw14.out.size))
          have Hb215 : Hid (Below w2.heap.size w2 w15) := Lib.hid (Hb214.out.trans (hb15.mono Hb214.out.size))
          have HR15 := Lib.hid (IsSpans.owned hown15)
          clear hown15 hb15
          go_wp2_with fail
          refine (norm_w v0 l _ (H0.out.below Hbw15.out) (by omega)).mono ?_
          rintro e w16 ⟨vU, rfl, hown16, hb16⟩
          have Hbw16 : Hid (Below w.heap.size w w16) := Lib.hid (Hbw15.out.trans (hb16.mono Hbw15.out.size))
          have Hb216 : Hid (Below w2.heap.size w2 w16) := Lib.hid (Hb215.out.trans (hb16.mono Hb215.out.size))
          have HR16 := Lib.hid (HR15.out.below hb16)
          have HU16 := Lib.hid (IsSpans.owned hown16)
          clear hown16 hb16
          go_wp2_with fail
          refine (same_w vR vU _ _ _ HR16.out HU16.out).mono ?_
          rw [decide_eq_true (show minusS l [] = normS l from rfl)]
          rintro e w17 ⟨rfl, hg17⟩
          have hb17 := hg17.below (B := w16.heap.size) (Nat.le_refl _)
          have Hbw17 : Hid (Below w.heap.size w w17) := Lib.hid (Hbw16.out.trans (hb17.mono Hbw16.out.size))
          have Hb217 : Hid (Below w2.heap.size w2 w17) := Lib.hid (Hb216.out.trans (hb17.mono Hb216.out.size))
          clear hg17 hb17
          go_wp2_with fail
          go_ret
          exact ⟨rfl, Hbw17.out⟩

end Go.Proofs.Ytenhjpopdmiekaa
