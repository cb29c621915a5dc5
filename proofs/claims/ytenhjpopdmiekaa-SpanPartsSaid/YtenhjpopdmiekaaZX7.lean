/-
  The walk of the law SpanParts.
-/
import Derived.Test.YtenhjpopdmiekaaZX6
import Derived.Test.YtenhjpopdmiekaaZX3
import Derived.Test.YtenhjpopdmiekaaZF4
import Derived.Deep.RegionLawGrows
import Derived.Deep.RegionWith
namespace Go.Proofs.Ytenhjpopdmiekaa
open Go.RowKit Go.Sort
set_option linter.unusedVariables false

set_option maxRecDepth 100000 in
set_option maxHeartbeats 4000000 in
theorem spanParts_walk (w : World) (v0 : Value) (s : Sp) (h0 : IsSpan w v0 s) (v1 : Value) (l : List Bs) (h1 : IsStrs w v1 l) :
    Calls Try.prog 6 #[v0, v1] w fun e w' => e = .returned (.bool true) ∧ Below w.heap.size w w' := by
  have mixed := mixedA
  obtain ⟨rfl, _, _⟩ := h0
  obtain ⟨sl, sh⟩ := s
  have hSh := fun wx : World => short_w (.slice (some ⟨wx.heap.size, 0, none⟩) 1 1) [(sl, sh)] 1 (wx.alloc (.cells #[.string (Str sl), .string (Str sh)] 29)) (one_spans (sl, sh))
  have HS : Hid (Blk (w.alloc (.cells #[.string (Str sl), .string (Str sh)] 29)) w.heap.size 29 #[.string (Str sl), .string (Str sh)]) := Lib.hid (Blk.new _ _ _)
  have H1 := Lib.hid h1
  obtain ⟨g0, o0, cap0, p0, rfl, hl1, hl2, hp0, hc0⟩ := h1.form
  have HP := Lib.hid hp0
  have HC := Lib.hid hc0
  unfold maxLen at hl2
  clear h1 hp0 hc0
  cases hS : shortB [(sl, sh)] 1 with
  | false =>
    rw [hS] at hSh
    have HSh := Lib.hid hSh
    clear hSh hS
    go_enter Try.func6, Try.ntmps6
    go_wp2_with (first
      | (go_at_call 7; refine (sanity_w _).mono ?_; rintro e w1 ⟨rfl, hb⟩; have Hs1 := Lib.hid (Blk.below HS.out hb HS.out.lt); have Hb1 : Hid (Below w.heap.size w w1) := Lib.hid (((Below.refl w.heap.size w).alloc (Nat.le_refl _) _).trans (hb.mono (by simp))); have c0 := Hs1.out.c0 0 _ rfl; have c1 := Hs1.out.c0 1 _ rfl; simp only [List.getElem_toArray, List.getElem_cons_zero, List.getElem_cons_succ] at c0 c1; clear hb)
      | (go_at_call 8; refine (HSh.out _).mono ?_; rintro e w2 ⟨rfl, rfl⟩))
    go_ret
    exact ⟨rfl, Hb1.out.alloc Hb1.out.size _⟩
  | true =>
    obtain ⟨_, hss⟩ := shortB_yes hS
    rw [hS] at hSh
    have HSh := Lib.hid hSh
    clear hSh hS
    by_cases h8 : 8 < l.length
    · have h8z : (8 : Int) < (l.length : Int) := by omega
      have h8d : decide ((8 : Int) < (l.length : Int)) = true := by simp; omega
      go_enter Try.func6, Try.ntmps6
      go_wp2_with (first
        | (go_at_call 7; refine (sanity_w _).mono ?_; rintro e w1 ⟨rfl, hb⟩; have Hs1 := Lib.hid (Blk.below HS.out hb HS.out.lt); have Hb1 : Hid (Below w.heap.size w w1) := Lib.hid (((Below.refl w.heap.size w).alloc (Nat.le_refl _) _).trans (hb.mono (by simp))); have c0 := Hs1.out.c0 0 _ rfl; have c1 := Hs1.out.c0 1 _ rfl; simp only [List.getElem_toArray, List.getElem_cons_zero, List.getElem_cons_succ] at c0 c1; clear hb)
        | (go_at_call 8; refine (HSh.out _).mono ?_; rintro e w2 ⟨rfl, rfl⟩))
      go_ret
      exact ⟨rfl, Hb1.out.alloc Hb1.out.size _⟩
    · have h8z : (l.length : Int) ≤ 8 := by omega
      have h8d : decide (8 < l.length) = false := by simp; omega
      have h8e : decide ((8 : Int) < (l.length : Int)) = false := by simp; omega
      have Hss := Lib.hid (hss (sl, sh) (by simp))
      clear hss
      go_enter Try.func6, Try.ntmps6
      go_upto_region 4 with (first
        | (go_at_call 7; refine (sanity_w _).mono ?_; rintro e w1 ⟨rfl, hb⟩; have Hs1 := Lib.hid (Blk.below HS.out hb HS.out.lt); have Hb1 : Hid (Below w.heap.size w w1) := Lib.hid (((Below.refl w.heap.size w).alloc (Nat.le_refl _) _).trans (hb.mono (by simp))); have c0 := Hs1.out.c0 0 _ rfl; have c1 := Hs1.out.c0 1 _ rfl; simp only [List.getElem_toArray, List.getElem_cons_zero, List.getElem_cons_succ] at c0 c1; clear hb)
        | (go_at_call 8; refine (HSh.out _).mono ?_; rintro e w2 ⟨rfl, rfl⟩))
      have HsA : Hid (Blk (w1.alloc (.cells #[.string (Str sl), .string (Str sh)] 29)) w.heap.size 29 #[.string (Str sl), .string (Str sh)]) := Lib.hid (Hs1.out.alloc _)
      have HbA : Hid (Below w.heap.size w (w1.alloc (.cells #[.string (Str sl), .string (Str sh)] 29))) := Lib.hid (Hb1.out.alloc Hb1.out.size _)
      clear c0 c1 HSh HS Hs1 Hb1
      generalize w1.alloc (.cells #[.string (Str sl), .string (Str sh)] 29) = wA at *
      have a0 := HsA.out.c0 0 _ rfl
      have a1 := HsA.out.c0 1 _ rfl
      simp only [List.getElem_toArray, List.getElem_cons_zero, List.getElem_cons_succ] at a0 a1
      go_wp2
      go_loopw [6, 7] (fun vE i wz => ∃ (k : Nat) (E : List Sp), k ≤ l.length ∧ i = .int .i64 k ∧ Hid (wz.ownsRow wA.heap.size 29 2 vE E.length (E.flatMap encS)) ∧ E.length = k + 1 ∧ Hid (∀ e ∈ E, e.1.length ≤ 30 ∧ e.2.length ≤ 30) ∧ Below wA.heap.size wA wz) (fun _ i _ => l.length - (intOf i).toNat)
      case atStart => exact ⟨0, [(sl, sh)], Nat.zero_le _, rfl, Lib.hid (World.ownsRow_lit wA #[.string (Str sl), .string (Str sh)] 1 (Nat.le_refl _) (by unfold maxLen; omega) rfl), rfl, Lib.hid (fun e he => by rw [List.mem_singleton] at he; subst he; exact Hss.out), below_box _⟩
      case round =>
        obtain ⟨i0, hi, hz0, hz1, hz2⟩ := info_parts infoS
        obtain ⟨k, E, hk, rfl, Hown, hE, HE30, hbA⟩ := hrel
        have Hbw : Hid (Below w.heap.size w wr) := Lib.hid (HbA.out.trans (hbA.mono HbA.out.size))
        have HA := Lib.hid hbA
        have Hs := Lib.hid (HsA.out.below hbA HsA.out.lt)
        clear hbA a0 a1
        by_cases hlt : k < l.length
        · have hltz : (k : Int) < (l.length : Int) := by omega
          have hdk : decide (k < l.length) = true := by simp; omega
          obtain ⟨rfl, c0⟩ := HC.out k hlt
          have hg := (HP.out (by rintro rfl; simp at hlt)).2
          have c0 := (Hbw.out.cell (p := ⟨g0, o0 + k, none⟩) (by exact hg)).trans c0
          generalize l[k] = x at *
          by_cases hx : 30 < x.length
          · have hxz : (30 : Int) < (x.length : Int) := by omega
            go_wp2
            go_ret
            exact ⟨rfl, Hbw.out⟩
          · have hxz : (x.length : Int) ≤ 30 := by omega
            have hxd : decide (30 < x.length) = false := by simp; omega
            go_wp2_with fail
            go_region_law (first
              | (refine step_own rfl _ _ 22 rfl wA.heap.size 29 i0 (.agg #[.string ⟨#[]⟩, .string ⟨#[]⟩]) 2 32 Try.underlying22 hi hz0 hz1 hz2 rfl (by decide) u6 E.length (E.flatMap encS) (by simp [Act.eval]) (owns_below Hown.out (Hg.out.alloc Hg.out.size _)) _ 1 1 [.string (Str x), .string (Str x)] (by simp [Act.eval]; rfl) rfl (cells_new' _ _ _ (by simp)) (by intro u hu; simp at hu; rcases hu with rfl | rfl <;> rfl) (by unfold maxLen; omega) (by omega) (by simp only [World.size_alloc]; have := HA.out.size; have := Hg.out.size; omega) ?_; intro v' w9 hown9 hgrow9)
              | (go_simp; go_at_call 15; refine (sp_w _ _ _).mono ?_; rintro e w8 ⟨rfl, hg⟩; have Hg : Hid (Below wr.heap.size wr w8) := Lib.hid (by first | exact hg.below (Nat.le_refl _) | exact (Below.refl _ _).drew.trans (hg.below (Nat.le_refl _)) | exact (below_drewN _ _).trans (hg.below (Nat.le_refl _))); clear hg))
            all_goals
              have Hown9 := Lib.hid hown9
              have H9 : Hid (Below wA.heap.size wA w9) := Lib.hid (Below.grown ((HA.out.trans (Hg.out.mono HA.out.size)).alloc (Nat.le_trans HA.out.size Hg.out.size) _) hgrow9 (by simp only [World.size_alloc]; have := HA.out.size; have := Hg.out.size; omega) (fun q hq => (Hown.out.lt q hq).1))
              clear hown9 hgrow9
              go_wp2
              go_roundw
              case rel => exact ⟨k + 1, E ++ [(x, x)], by omega, by go_num, Lib.hid (by rw [List.length_append, List.flatMap_append]; exact Hown9.out), by simp; omega, Lib.hid (fun e he => by rcases List.mem_append.1 he with h | h; exact HE30.out e h; rw [List.mem_singleton] at h; subst h; exact ⟨by show x.length ≤ 30; omega, by show x.length ≤ 30; omega⟩), H9.out⟩
              case measure => simp [intOf]; omega
        · have hltz : (l.length : Int) ≤ (k : Int) := by omega
          have hdk : decide (k < l.length) = false := by simp; omega
          have HEs : Hid (IsSpans wr u6 E) := Lib.hid (IsSpans.owned Hown.out)
          have hE9 : E.length ≤ 9 := by omega
          clear Hown HsA HbA HA
          go_wp2_with fail
          refine (pivots_w (.slice p0 l.length cap0) l _ (H1.out.below Hbw.out) (by omega)).mono ?_
          rintro e w3 ⟨vP, rfl, hP3, hb3⟩
          have hsrt : SrtP (pivF [] l) := pivF_srt l [] trivial
          have hpl : (pivF [] l).length ≤ 8 := by have := pivF_len l []; simp at this; omega
          generalize pivF [] l = ps at *
          have HP3 := Lib.hid hP3
          have Hsrt := Lib.hid hsrt
          have Hb3 : Hid (Below w.heap.size w w3) := Lib.hid (Hbw.out.trans (hb3.mono Hbw.out.size))
          have Hs3 := Lib.hid (Hs.out.below hb3 Hs.out.lt)
          have HE3 := Lib.hid (HEs.out.below hb3)
          clear hP3 hb3 hsrt Hs HEs Hbw
          have a0 := Hs3.out.c0 0 _ rfl
          have a1 := Hs3.out.c0 1 _ rfl
          simp only [List.getElem_toArray, List.getElem_cons_zero, List.getElem_cons_succ] at a0 a1
          go_wp2_with fail
          refine (parts_w sl sh vP ps _ HP3.out (by omega)).mono ?_
          rintro e w4 ⟨vT, rfl, hown4, hb4⟩
          have HT4 := Lib.hid (IsSpans.owned hown4)
          have Hb4 : Hid (Below w.heap.size w w4) := Lib.hid (Hb3.out.trans (hb4.mono Hb3.out.size))
          have Hs4 := Lib.hid (Hs3.out.below hb4 Hs3.out.lt)
          have HE4 := Lib.hid (HE3.out.below hb4)
          have HP4 := Lib.hid (HP3.out.below hb4)
          have hTl := partsF_len (sl, sh) [] ps
          have Hat := Lib.hid (fun k a h i hi => parts_at (sl, sh) k ps [] a Hsrt.out (less_nil k) h i hi)
          have Hnm := Lib.hid (parts_norm (sl, sh) ps Hsrt.out)
          clear hown4 hb4 Hs3 HE3 HP3 Hb3 a0 a1
          generalize partsF (sl, sh) [] ps = T at *
          go_wp2_with fail
          refine (near_w u6 E _ HE4.out (by omega) (fun e he => by have := HE30.out e he; omega)).mono ?_
          rintro e w5 ⟨vK, ks, rfl, hown5, hk5, hb5⟩
          have Hb5 : Hid (Below w.heap.size w w5) := Lib.hid (Hb4.out.trans (hb5.mono Hb4.out.size))
          have Hs5 := Lib.hid (Hs4.out.below hb5 Hs4.out.lt)
          have HT5 := Lib.hid (HT4.out.below hb5)
          have HP5 := Lib.hid (HP4.out.below hb5)
          have HK5 := Lib.hid (IsStrs.owned hown5)
          clear hown5 hb5 Hs4 HE4 HP4 HT4 Hb4
          obtain ⟨gK, oK, capK, pK, rfl, hK1, hK2, hKp, hKc⟩ := HK5.out.form
          have HKp := Lib.hid hKp
          have HKc := Lib.hid hKc
          obtain ⟨gT, oT, capT, pT, rfl, hT1, hT2, hTp, hTc⟩ := HT5.out.form
          obtain ⟨gP, oP, capP, pP, rfl, hP1, hP2, hPp, hPc⟩ := HP5.out.form
          have HTp := Lib.hid hTp
          have HTc := Lib.hid hTc
          have HPp := Lib.hid hPp
          have HPc := Lib.hid hPc
          unfold maxLen at hT2 hP2 hK2
          have hTlz : (T.length : Int) = (ps.length : Int) + 1 := by omega
          have hplz : (ps.length : Int) ≤ 8 := by omega
          clear hTp hTc hPp hPc hKp hKc
          go_wp2
          have hTl2 := hTl
          clear hTl hTlz
          have hdkT : decide ((ps.length : Int) + 1 = (ps.length : Int) + 1) = true := by simp
          go_loopw [11] (fun i wr => ∃ k : Nat, k ≤ ks.length ∧ i = .int .i64 k ∧ Below w5.heap.size w5 wr) (fun i _ => ks.length - (intOf i).toNat)
          case atStart => exact ⟨0, Nat.zero_le _, rfl, Below.refl _ _⟩
          case round =>
            obtain ⟨k2, hk2, rfl, hbz⟩ := hrel
            have Hz := Lib.hid hbz
            clear hbz
            by_cases hlt2 : k2 < ks.length
            · have hlt2z : (k2 : Int) < (ks.length : Int) := by omega
              have hdk2 : decide (k2 < ks.length) = true := by simp; omega
              obtain ⟨rfl, ck0⟩ := HKc.out k2 hlt2
              have hgK := (HKp.out (by rintro rfl; simp at hlt2)).2
              have Hck := Lib.hid ck0
              have Hat2 := Lib.hid (fun a (h : AtP ks[k2] ps a) => Hat.out ks[k2] a h)
              clear ck0
              generalize ks[k2] = key at *
              go_wp2
              go_loopw [12] (fun i wz => ∃ a : Nat, a ≤ ps.length ∧ i = .int .i64 a ∧ Hid (∀ j (h : j < ps.length), j < a → Op.bytesLess key ps[j] = false) ∧ Below w5.heap.size w5 wz) (fun i _ => ps.length - (intOf i).toNat)
              case atStart => exact ⟨0, Nat.zero_le _, rfl, Lib.hid (fun j h hj => absurd hj (by omega)), Hz.out⟩
              case round =>
                clear Hz
                obtain ⟨a, ha, rfl, Hlow, hz3⟩ := hrel
                have Hz3 := Lib.hid hz3
                clear hz3
                by_cases hlt3 : a < ps.length
                · have hlt3z : (a : Int) < (ps.length : Int) := by omega
                  have hdk3 : decide (a < ps.length) = true := by simp; omega
                  obtain ⟨rfl, q0⟩ := HPc.out a hlt3
                  have hgP := (HPp.out (by rintro rfl; simp at hlt3)).2
                  have q0 := (Hz3.out.cell (p := ⟨gP, oP + a, none⟩) (by exact hgP)).trans q0
                  have ck := (Hz3.out.cell (p := ⟨gK, oK + k2, none⟩) (by exact hgK)).trans Hck.out
                  cases h1 : Op.bytesLess key ps[a] with
                  | true =>
                    have HatP := Lib.hid (Hat2.out a ⟨ha, Hlow.out, fun _ => h1⟩)
                    clear Hlow
                    generalize ps[a] = q at *
                    have h2 : Op.bytesLess q key = false := by
                      cases h : Op.bytesLess q key with
                      | false => rfl
                      | true => have := less_trans _ _ _ h h1; rw [less_irrefl] at this; cases this
                    have h3 : (q == key) = false := by
                      rw [beq_eq_false_iff_ne]; rintro rfl; rw [less_irrefl] at h1; cases h1
                    go_wp2_with fail
                    go_quiet (fail)
                    have HzN : Hid (Below w5.heap.size w5 (wr.drewN nq)) := Lib.hid (Hz3.out.trans (below_drewN _ _))
                    clear q0 ck h1 h2 h3
                    clear Hz3
                    go_wp2
                    go_loopw [13] (fun i wz => ∃ j : Nat, j ≤ ps.length + 1 ∧ i = .int .i64 j ∧ Below w5.heap.size w5 wz) (fun i _ => ps.length + 1 - (intOf i).toNat)
                    case atStart => exact ⟨0, Nat.zero_le _, rfl, HzN.out⟩
                    case round =>
                      clear HzN
                      obtain ⟨j, hj, rfl, hz4⟩ := hrel
                      have Hz4 := Lib.hid hz4
                      clear hz4
                      by_cases hlt4 : j < ps.length + 1
                      · have hlt4z : (j : Int) < (ps.length : Int) + 1 := by omega
                        have hdk4 : decide (j < ps.length + 1) = true := by simp; omega
                        have hjT : j < T.length := by omega
                        obtain ⟨rfl, t0, t1⟩ := HTc.out j hjT
                        have hgT := (HTp.out (by rintro rfl; simp at hjT)).2
                        have hgTz : gT < wr.heap.size := Nat.lt_of_lt_of_le hgT Hz4.out.size
                        have t0 := fun n os => cell_grown hgTz ((Hz4.out.cell (p := ⟨gT, oT + j * 2, none⟩) (by exact hgT)).trans t0) n os
                        have t1 := fun n os => cell_grown hgTz ((Hz4.out.cell (p := ⟨gT, oT + j * 2 + 1, none⟩) (by exact hgT)).trans t1) n os
                        have hgKz : gK < wr.heap.size := Nat.lt_of_lt_of_le hgK Hz4.out.size
                        have ck := fun n os => cell_grown hgKz ((Hz4.out.cell (p := ⟨gK, oK + k2, none⟩) (by exact hgK)).trans Hck.out) n os
                        have Hs6 := Lib.hid (Hs5.out.below Hz4.out Hs5.out.lt)
                        have s0 := Hs6.out.c 0 _ rfl
                        have s1 := Hs6.out.c 1 _ rfl
                        simp only [List.getElem_toArray, List.getElem_cons_zero, List.getElem_cons_succ] at s0 s1
                        have hH := HatP.out j hjT
                        have hsS := fun wx => has_w sl sh key wx
                        generalize T[j] = z at *
                        obtain ⟨za, zb⟩ := z
                        simp only at t0 t1
                        have hsT := fun wx => has_w za zb key wx
                        rw [hH] at hsT
                        clear hH
                        by_cases hja : j = a
                        · subst hja
                          rw [decide_eq_true rfl, Bool.true_and] at hsT
                          cases hb : hasB (sl, sh) key
                          all_goals
                            rw [hb] at hsT hsS
                            clear hb
                            go_wp2_with fail
                            refine wp_region_quiet_grown mixed (by kernel_rfl) ?_
                            repeat (first | go_big_quiet_skip | (refine wpQuiet_step (fun K hK => ?_); have HK := Lib.hid hK; clear hK; go_simp; first | (refine HK.out _ ?_; clear HK K) | (apply Exists.intro; refine ⟨fun _ => ?_, HK.out _ ?_⟩; (first | (go_at_call_of 17 (Value.string (Str za)); refine calls_grown (hsT _)) | (go_at_call 17; refine calls_grown (hsS _))); clear HK K)))
                            refine wpQuiet_nil ?_
                            intro _ hw'
                            obtain ⟨⟨nq, osq⟩, hw''⟩ := hw'
                            subst hw''
                            have HBn := Lib.hid (Below.next Hz4.out (Nat.le_refl _) (below_grown (B := wr.heap.size) wr nq osq (Nat.le_refl _)))
                            go_wp2
                            go_roundw
                            case rel => exact ⟨j + 1, by omega, by go_num, HBn.out⟩
                            case measure => simp [intOf]; omega
                        · have hjaz : ¬ (j : Int) = (a : Int) := by omega
                          have hjad : decide (j = a) = false := by simp; omega
                          rw [hjad, Bool.false_and] at hsT
                          clear hsS
                          go_wp2_with fail
                          refine wp_region_quiet_grown mixed (by kernel_rfl) ?_
                          repeat (first | go_big_quiet_skip | (refine wpQuiet_step (fun K hK => ?_); have HK := Lib.hid hK; clear hK; go_simp; first | (refine HK.out _ ?_; clear HK K) | (apply Exists.intro; refine ⟨fun _ => ?_, HK.out _ ?_⟩; (first | (go_at_call_of 17 (Value.string (Str za)); refine calls_grown (hsT _)) | (go_at_call 17; refine calls_grown (hsS _))); clear HK K)))
                          refine wpQuiet_nil ?_
                          intro _ hw'
                          obtain ⟨⟨nq, osq⟩, hw''⟩ := hw'
                          subst hw''
                          have HBn := Lib.hid (Below.next Hz4.out (Nat.le_refl _) (below_grown (B := wr.heap.size) wr nq osq (Nat.le_refl _)))
                          go_wp2
                          go_roundw
                          case rel => exact ⟨j + 1, by omega, by go_num, HBn.out⟩
                          case measure => simp [intOf]; omega
                      · have hlt4z : (ps.length : Int) + 1 ≤ (j : Int) := by omega
                        have hdk4 : decide (j < ps.length + 1) = false := by simp; omega
                        go_wp2
                        go_roundw
                        case rel => exact ⟨k2 + 1, by omega, by go_num, Hz4.out⟩
                        case measure => simp [intOf]; omega
                  | false =>
                    have Hlow2 : Hid (∀ j (h : j < ps.length), j < a + 1 → Op.bytesLess key ps[j] = false) := Lib.hid (fun j h hj => by
                      rcases Nat.lt_succ_iff_lt_or_eq.1 hj with h4 | h4
                      · exact Hlow.out j h h4
                      · subst h4; exact h1)
                    clear Hlow
                    generalize ps[a] = q at *
                    cases h2 : Op.bytesLess q key with
                    | true =>
                      go_wp2_with fail
                      go_quiet (fail)
                      have HzN := Lib.hid (Hz3.out.trans (below_drewN _ nq))
                      go_wp2
                      go_roundw
                      case rel => exact ⟨a + 1, by omega, by go_num, Hlow2, HzN.out⟩
                      case measure => simp [intOf]; omega
                    | false =>
                      obtain rfl := less_total _ _ h1 h2
                      go_wp2_with fail
                      go_quiet (fail)
                      have HzN := Lib.hid (Hz3.out.trans (below_drewN _ nq))
                      go_wp2
                      go_roundw
                      case rel => exact ⟨a + 1, by omega, by go_num, Hlow2, HzN.out⟩
                      case measure => simp [intOf]; omega
                · have hlt3z : (ps.length : Int) ≤ (a : Int) := by omega
                  have hdk3 : decide (a < ps.length) = false := by simp; omega
                  have HatP := Lib.hid (Hat2.out a ⟨ha, Hlow.out, fun h => absurd h hlt3⟩)
                  clear Hlow
                  go_wp2_with fail
                  go_quiet (fail)
                  have HzN : Hid (Below w5.heap.size w5 (wr.drewN nq)) := Lib.hid (Hz3.out.trans (below_drewN _ _))
                  clear Hz3
                  go_wp2
                  go_loopw [13] (fun i wz => ∃ j : Nat, j ≤ ps.length + 1 ∧ i = .int .i64 j ∧ Below w5.heap.size w5 wz) (fun i _ => ps.length + 1 - (intOf i).toNat)
                  case atStart => exact ⟨0, Nat.zero_le _, rfl, HzN.out⟩
                  case round =>
                    clear HzN
                    obtain ⟨j, hj, rfl, hz4⟩ := hrel
                    have Hz4 := Lib.hid hz4
                    clear hz4
                    by_cases hlt4 : j < ps.length + 1
                    · have hlt4z : (j : Int) < (ps.length : Int) + 1 := by omega
                      have hdk4 : decide (j < ps.length + 1) = true := by simp; omega
                      have hjT : j < T.length := by omega
                      obtain ⟨rfl, t0, t1⟩ := HTc.out j hjT
                      have hgT := (HTp.out (by rintro rfl; simp at hjT)).2
                      have hgTz : gT < wr.heap.size := Nat.lt_of_lt_of_le hgT Hz4.out.size
                      have t0 := fun n os => cell_grown hgTz ((Hz4.out.cell (p := ⟨gT, oT + j * 2, none⟩) (by exact hgT)).trans t0) n os
                      have t1 := fun n os => cell_grown hgTz ((Hz4.out.cell (p := ⟨gT, oT + j * 2 + 1, none⟩) (by exact hgT)).trans t1) n os
                      have hgKz : gK < wr.heap.size := Nat.lt_of_lt_of_le hgK Hz4.out.size
                      have ck := fun n os => cell_grown hgKz ((Hz4.out.cell (p := ⟨gK, oK + k2, none⟩) (by exact hgK)).trans Hck.out) n os
                      have Hs6 := Lib.hid (Hs5.out.below Hz4.out Hs5.out.lt)
                      have s0 := Hs6.out.c 0 _ rfl
                      have s1 := Hs6.out.c 1 _ rfl
                      simp only [List.getElem_toArray, List.getElem_cons_zero, List.getElem_cons_succ] at s0 s1
                      have hH := HatP.out j hjT
                      have hsS := fun wx => has_w sl sh key wx
                      generalize T[j] = z at *
                      obtain ⟨za, zb⟩ := z
                      simp only at t0 t1
                      have hsT := fun wx => has_w za zb key wx
                      rw [hH] at hsT
                      clear hH
                      by_cases hja : j = a
                      · subst hja
                        rw [decide_eq_true rfl, Bool.true_and] at hsT
                        cases hb : hasB (sl, sh) key
                        all_goals
                          rw [hb] at hsT hsS
                          clear hb
                          go_wp2_with fail
                          refine wp_region_quiet_grown mixed (by kernel_rfl) ?_
                          repeat (first | go_big_quiet_skip | (refine wpQuiet_step (fun K hK => ?_); have HK := Lib.hid hK; clear hK; go_simp; first | (refine HK.out _ ?_; clear HK K) | (apply Exists.intro; refine ⟨fun _ => ?_, HK.out _ ?_⟩; (first | (go_at_call_of 17 (Value.string (Str za)); refine calls_grown (hsT _)) | (go_at_call 17; refine calls_grown (hsS _))); clear HK K)))
                          refine wpQuiet_nil ?_
                          intro _ hw'
                          obtain ⟨⟨nq, osq⟩, hw''⟩ := hw'
                          subst hw''
                          have HBn := Lib.hid (Below.next Hz4.out (Nat.le_refl _) (below_grown (B := wr.heap.size) wr nq osq (Nat.le_refl _)))
                          go_wp2
                          go_roundw
                          case rel => exact ⟨j + 1, by omega, by go_num, HBn.out⟩
                          case measure => simp [intOf]; omega
                      · have hjaz : ¬ (j : Int) = (a : Int) := by omega
                        have hjad : decide (j = a) = false := by simp; omega
                        rw [hjad, Bool.false_and] at hsT
                        clear hsS
                        go_wp2_with fail
                        refine wp_region_quiet_grown mixed (by kernel_rfl) ?_
                        repeat (first | go_big_quiet_skip | (refine wpQuiet_step (fun K hK => ?_); have HK := Lib.hid hK; clear hK; go_simp; first | (refine HK.out _ ?_; clear HK K) | (apply Exists.intro; refine ⟨fun _ => ?_, HK.out _ ?_⟩; (first | (go_at_call_of 17 (Value.string (Str za)); refine calls_grown (hsT _)) | (go_at_call 17; refine calls_grown (hsS _))); clear HK K)))
                        refine wpQuiet_nil ?_
                        intro _ hw'
                        obtain ⟨⟨nq, osq⟩, hw''⟩ := hw'
                        subst hw''
                        have HBn := Lib.hid (Below.next Hz4.out (Nat.le_refl _) (below_grown (B := wr.heap.size) wr nq osq (Nat.le_refl _)))
                        go_wp2
                        go_roundw
                        case rel => exact ⟨j + 1, by omega, by go_num, HBn.out⟩
                        case measure => simp [intOf]; omega
                    · have hlt4z : (ps.length : Int) + 1 ≤ (j : Int) := by omega
                      have hdk4 : decide (j < ps.length + 1) = false := by simp; omega
                      go_wp2
                      go_roundw
                      case rel => exact ⟨k2 + 1, by omega, by go_num, Hz4.out⟩
                      case measure => simp [intOf]; omega
            · have hlt2z : (ks.length : Int) ≤ (k2 : Int) := by omega
              have hdk2 : decide (k2 < ks.length) = false := by simp; omega
              have Hbwz : Hid (Below w.heap.size w wr) := Lib.hid (Hb5.out.trans (Hz.out.mono Hb5.out.size))
              have Hs6 := Lib.hid (Hs5.out.below Hz.out Hs5.out.lt)
              have s0 := Hs6.out.c0 0 _ rfl
              have s1 := Hs6.out.c0 1 _ rfl
              simp only [List.getElem_toArray, List.getElem_cons_zero, List.getElem_cons_succ] at s0 s1
              have HTz : Hid (IsSpans wr (.slice pT (ps.length + 1) capT) T) := Lib.hid (by rw [← hTl2]; exact HT5.out.below Hz.out)
              have hN1 := fun (W : World) (h : Below wr.heap.size wr W) => norm_w (.slice pT (ps.length + 1) capT) T W (HTz.out.below h) (by omega)
              rw [Hnm.out] at hN1
              have hN2 := fun (v : Value) (W : World) (h : IsSpans W v [(sl, sh)]) => norm_w v [(sl, sh)] W h (by simp)
              have hSm : ∀ (u v : Value) (W : World), IsSpans W u (normS [(sl, sh)]) → IsSpans W v (normS [(sl, sh)]) → Calls Try.prog 25 #[u, v] W fun e w' => e = .returned (.bool true) ∧ Grown W w' := fun u v W h h2 => by
                have h3 := same_w u v _ _ W h h2
                rw [decide_eq_true (rfl : normS [(sl, sh)] = normS [(sl, sh)])] at h3
                exact h3
              generalize normS [(sl, sh)] = O at *
              have HN1 := Lib.hid hN1
              have HN2 := Lib.hid hN2
              have HSm := Lib.hid hSm
              clear hN1 hN2 hSm Hnm
              clear Hz HT5 HTp HTc HPp HPc HKp HKc Hat Hs5 Hb5 HTz
              go_wp2_with fail
              go_region_with (first
                | (go_at_call_of 28 (pT); refine (HN1.out _ (by first | exact (Below.refl _ _).drew | exact ((Below.refl _ _).drew.alloc (Nat.le_refl _) _))).mono ?_; rintro e w9 ⟨vA, rfl, hownA, hbA⟩; have HA9 := Lib.hid (IsSpans.owned hownA); have HbA : Hid (Below wr.heap.size wr w9) := Lib.hid (by first | exact ((Below.refl _ _).drew.trans hbA) | exact (((Below.refl wr.heap.size wr).drew.alloc (Nat.le_refl _) _).trans (hbA.mono (by simp)))); have Hs9 := Lib.hid (Hs6.out.below HbA.out Hs6.out.lt); have b0 := Hs9.out.c0 0 _ rfl; have b1 := Hs9.out.c0 1 _ rfl; simp only [List.getElem_toArray, List.getElem_cons_zero, List.getElem_cons_succ] at b0 b1; try have HX : Hid (IsSpans w9 (.slice (some ⟨wr.heap.size, 0, none⟩) 1 1) [(sl, sh)]) := Lib.hid ((one_spans (w := wr.drew) (sl, sh)).below hbA); clear hownA hbA)
                | (go_at_call 28; refine (HN2.out _ _ (by first | exact HX.out | exact one_spans (sl, sh))).mono ?_; rintro e w10 ⟨vB, rfl, hownB, hbB⟩; have HB10 := Lib.hid (IsSpans.owned hownB); have HbB : Hid (Below w9.heap.size w9 w10) := Lib.hid (by first | exact hbB | exact (((Below.refl w9.heap.size w9).alloc (Nat.le_refl _) _).trans (hbB.mono (by simp)))); have HA10 := Lib.hid (HA9.out.below HbB.out); clear hownB hbB)
                | (go_at_call 25; refine (HSm.out _ _ _ HA10.out HB10.out).mono ?_; rintro e w11 ⟨rfl, hg11⟩; have HbC : Hid (Below w10.heap.size w10 w11) := Lib.hid (hg11.below (Nat.le_refl _)); clear hg11))
              all_goals
                have HF : Hid (Below w.heap.size w w11) := Lib.hid (Hbwz.out.trans ((HbA.out.trans ((HbB.out.trans (HbC.out.mono HbB.out.size)).mono HbA.out.size)).mono Hbwz.out.size))
                go_wp2
                go_ret
                exact ⟨rfl, HF.out⟩


end Go.Proofs.Ytenhjpopdmiekaa
