/-
  The walk of the law SpanNorm.
-/
import Derived.Test.YtenhjpopdmiekaaZX3
import Derived.Test.YtenhjpopdmiekaaZF3
namespace Go.Proofs.Ytenhjpopdmiekaa
open Go.RowKit Go.Sort
set_option linter.unusedVariables false

set_option maxRecDepth 100000 in
set_option maxHeartbeats 4000000 in
theorem spanNorm_walk (w : World) (v0 : Value) (l : List Sp) (h0 : IsSpans w v0 l) (v1 : Value) (n : Nat) (h1 : IsU8 w v1 n) :
    Calls Try.prog 4 #[v0, v1] w fun e w' => e = .returned (.bool true) ∧ Below w.heap.size w w' := by
  have mixed := mixedA
  obtain ⟨rfl, hn⟩ := h1
  have hl0 := fun wx (h : Below w.heap.size w wx) => short_w v0 l 8 wx (h0.below h)
  have H0 := Lib.hid h0
  clear h0
  cases hS : shortB l 8 with
  | false =>
    rw [hS] at hl0
    have Hl0 := Lib.hid hl0
    clear hl0 hS
    go_enter Try.func4, Try.ntmps4
    go_wp2_with (first
      | (go_at_call 7; refine (sanity_w _).mono ?_; rintro e w1 ⟨rfl, hb⟩; have Hb1 := Lib.hid hb; clear hb)
      | (go_at_call 8; refine (Hl0.out _ Hb1.out).mono ?_; rintro e w2 ⟨rfl, rfl⟩))
    go_ret
    exact ⟨rfl, Hb1.out⟩
  | true =>
    obtain ⟨hll, hls⟩ := shortB_yes hS
    rw [hS] at hl0
    have Hl0 := Lib.hid hl0
    clear hl0 hS
    have hOl := norm_length l
    have Hin := Lib.hid (fun k => norm_inB l k)
    have Hnrm := Lib.hid (norm_nrm l)
    have Hne := Lib.hid (norm_nrm l).ne
    have Hof := Lib.hid (fun (T : List Sp) (h : ∀ k, InL T k ↔ InL l k) => (norm_of (norm_nrm l) (fun k => by rw [norm_in, h k]) : normS T = normS l))
    have Hself := Lib.hid (norm_of (norm_nrm l) (fun k => Iff.rfl) : normS (normS l) = normS l)
    have hnorm := fun wx (h : Below w.heap.size w wx) => norm_w v0 l wx (H0.out.below h) (by omega)
    generalize hO : normS l = O at *
    clear hO
    have Hnorm := Lib.hid hnorm
    have Hls := Lib.hid hls
    clear hnorm hls
    obtain ⟨g0, o0, cap0, p0, hv0, hl1, hl2, hp0, hc0⟩ := H0.out.form
    have HP0 := Lib.hid hp0
    have HC0 := Lib.hid hc0
    unfold maxLen at hl2
    subst hv0
    clear hp0 hc0
    go_enter Try.func4, Try.ntmps4
    go_upto_region 4 with (first
      | (go_at_call 7; refine (sanity_w _).mono ?_; rintro e w1 ⟨rfl, hb⟩; have Hb1 := Lib.hid hb; clear hb)
      | (go_at_call 8; refine (Hl0.out _ Hb1.out).mono ?_; rintro e w2 ⟨rfl, rfl⟩))
    clear Hl0
    go_wp2_with fail
    refine (Hnorm.out _ Hb1.out).mono ?_
    rintro e w2 ⟨vO, rfl, hown, hb2⟩
    have hO2 := IsSpans.owned hown
    have Hb2 : Hid (Below w.heap.size w w2) := Lib.hid (Hb1.out.trans (hb2.mono Hb1.out.size))
    have HO2 := Lib.hid hO2
    clear hown hb2 hO2 Hnorm
    go_wp2_with fail
    refine (near_w (.slice p0 l.length cap0) l _ (H0.out.below Hb2.out) (by omega) (fun s hs => by have := Hls.out s hs; omega)).mono ?_
    rintro e w5 ⟨vK, ks, rfl, hown3, hk1, hb3⟩
    have Hb5 : Hid (Below w.heap.size w w5) := Lib.hid (Hb2.out.trans (hb3.mono Hb2.out.size))
    have Hc5 := Lib.hid hb3
    have Hk5 := Lib.hid (IsStrs.owned hown3)
    clear hb3 hown3
    obtain ⟨_, _, capK, pK, rfl, _⟩ := Hk5.out.form
    obtain ⟨_, _, capO, pO, rfl, hO1, hO2', _⟩ := HO2.out.form
    unfold maxLen at hO2'
    have hOl8 : O.length ≤ 8 := by omega
    have hOlz : (O.length : Int) ≤ (l.length : Int) := by omega
    have hdk : decide (l.length < O.length) = false := by simp; omega
    go_wp2
    go_loopw [8] (fun i wr => ∃ k : Nat, k ≤ ks.length ∧ i = .int .i64 k ∧ Below w5.heap.size w5 wr) (fun i _ => ks.length - (intOf i).toNat)
    case atStart => exact ⟨0, Nat.zero_le _, rfl, Below.refl _ _⟩
    case round =>
      obtain ⟨k, hk, rfl, hbel⟩ := hrel
      obtain ⟨g, o, cap', p', he, hc1, hc2, hkey⟩ := keysG Hk5.out hbel
      injection he with he1 he2 he3
      subst he1 he3
      clear he2
      have Hbel := Lib.hid hbel
      have hbw : Below w.heap.size w wr := Hb5.out.trans (hbel.mono Hb5.out.size)
      have hb2r : Below w2.heap.size w2 wr := Hc5.out.trans (hbel.mono Hc5.out.size)
      have Hl := Lib.hid (H0.out.below hbw)
      have HO := Lib.hid (HO2.out.below hb2r)
      have Hbw := Lib.hid hbw
      have Hb2r := Lib.hid hb2r
      clear hbel hbw hb2r
      by_cases hlt : k < ks.length
      · have hltz : (k : Int) < (ks.length : Int) := by omega
        obtain ⟨rfl, ck⟩ := hkey k hlt
        have hin := Hin.out ks[k]
        generalize ks[k] = key at *
        have hsO := fun n os => in_w (.slice pO O.length capO) O key (grow (wr.drewN n) os) (HO.out.below (below_grown wr n os (Nat.le_refl _)))
        have hsl := fun n os => in_w (.slice p0 l.length cap0) l key (grow (wr.drewN n) os) (Hl.out.below (below_grown wr n os (Nat.le_refl _)))
        rw [hin] at hsO
        clear hin hkey
        cases e1 : inB l key
        all_goals
          simp only [e1] at hsO hsl
          clear e1
          go_wp2_with fail
          refine wp_region_quiet_grown mixed (by kernel_rfl) ?_
          repeat (first | go_big_quiet_skip | (refine wpQuiet_step (fun K hK => ?_); have HK := Lib.hid hK; clear hK; go_simp; first | (refine HK.out _ ?_; clear HK K) | (apply Exists.intro; refine ⟨fun _ => ?_, HK.out _ ?_⟩; (first | (go_at_call_of 33 (Value.slice pO O.length capO); refine calls_grown (hsO _ _)) | (go_at_call_of 33 (Value.slice p0 l.length cap0); refine calls_grown (hsl _ _))); clear HK K)))
          refine wpQuiet_nil ?_
          intro _ hw'
          obtain ⟨⟨nq, osq⟩, hw''⟩ := hw'
          subst hw''
          have HBn := Lib.hid (Below.next Hbel.out (Nat.le_refl _) (below_grown (B := wr.heap.size) wr nq osq (Nat.le_refl _)))
          go_wp2
          go_roundw
          case rel => exact ⟨k + 1, by omega, by go_num, HBn.out⟩
          case measure => simp [intOf]; omega
      · have hltz : (ks.length : Int) ≤ (k : Int) := by omega
        clear hkey
        go_wp2
        go_loopw [9] (fun i wz => ∃ k : Nat, k ≤ O.length ∧ i = .int .i64 k ∧ Below wr.heap.size wr wz) (fun i _ => O.length - (intOf i).toNat)
        case atStart => exact ⟨0, Nat.zero_le _, rfl, Below.refl _ _⟩
        case round =>
          obtain ⟨k2, hk2, rfl, hbz⟩ := hrel
          obtain ⟨gO, oO, capO2, pO2, hvO, hOl1, hOl2, hOp, hOc⟩ := HO2.out.form
          injection hvO with hvO1 hvO2 hvO3
          subst hvO1 hvO3
          clear hvO2
          have Hbz := Lib.hid hbz
          have hbwz : Below w.heap.size w wr := Hbw.out.trans (hbz.mono Hbw.out.size)
          have hb2z : Below w2.heap.size w2 wr := Hb2r.out.trans (hbz.mono Hb2r.out.size)
          have hcell : ∀ i (h : i < O.length), pO = some ⟨gO, oO, none⟩ ∧ gO < wr.heap.size ∧ wr.cell? ⟨gO, oO + i * 2, none⟩ = some (.string (Str O[i].1)) ∧ wr.cell? ⟨gO, oO + i * 2 + 1, none⟩ = some (.string (Str O[i].2)) := by
            intro i h
            obtain ⟨e1, c0, c1⟩ := hOc i h
            have hg := (hOp (by rintro rfl; simp at h)).2
            exact ⟨e1, Nat.lt_of_lt_of_le hg hb2z.size, (hb2z.cell (p := ⟨gO, oO + i * 2, none⟩) (by exact hg)).trans c0, (hb2z.cell (p := ⟨gO, oO + i * 2 + 1, none⟩) (by exact hg)).trans c1⟩
          have Hbwz := Lib.hid hbwz
          have Hb2z := Lib.hid hb2z
          have Hcell := Lib.hid hcell
          clear hbz hbwz hb2z hcell hOc hOp
          by_cases hlt2 : k2 < O.length
          · have hlt2z : (k2 : Int) < (O.length : Int) := by omega
            obtain ⟨rfl, hgO, c0, c1⟩ := Hcell.out k2 hlt2
            have hne := Hne.out O[k2] (List.getElem_mem hlt2)
            have hEm := fun wx => rempty_w O[k2].1 O[k2].2 wx
            rw [show ((O[k2].1, O[k2].2) : Sp) = O[k2] from rfl, hne] at hEm
            clear hne
            have c0 := fun n os => cell_grown hgO c0 n os
            have c1 := fun n os => cell_grown hgO c1 n os
            by_cases hk0 : k2 = 0
            · subst hk0
              generalize O[0] = x at *
              obtain ⟨xl, xh⟩ := x
              simp only [Nat.zero_mul, Nat.add_zero] at c0 c1 hEm
              have hlt3z : (0 : Int) < (O.length : Int) := by omega
              clear hlt2z
              go_wp2_with fail
              refine wp_region_quiet_grown mixed (by kernel_rfl) ?_
              repeat (first | go_big_quiet_skip | (refine wpQuiet_step (fun K hK => ?_); have HK := Lib.hid hK; clear hK; go_simp; first | (refine HK.out _ ?_; clear HK K) | (apply Exists.intro; refine ⟨fun _ => ?_, HK.out _ ?_⟩; (first | (go_at_call 20; refine calls_grown (hEm _))); clear HK K)))
              refine wpQuiet_nil ?_
              intro _ hw'
              obtain ⟨⟨nq, osq⟩, hw''⟩ := hw'
              subst hw''
              have HBn := Lib.hid (Below.next Hbz.out (Nat.le_refl _) (below_grown (B := wr.heap.size) wr nq osq (Nat.le_refl _)))
              go_wp2
              go_roundw
              case rel => exact ⟨0 + 1, by omega, by go_num, HBn.out⟩
              case measure => simp [intOf]; omega
            · have hj2 : k2 - 1 + 1 < O.length := by omega
              obtain ⟨h5, h6⟩ := nrm_at Hnrm.out (k2 - 1) hj2
              obtain ⟨_, _, d0, d1⟩ := Hcell.out (k2 - 1) (by omega)
              have d1 := fun n os => cell_grown hgO d1 n os
              have hx : O[k2 - 1 + 1]'hj2 = O[k2] := by congr 1; omega
              rw [hx] at h6
              clear hx
              generalize O[k2] = x at *
              generalize O[k2 - 1]'(by omega) = y at *
              obtain ⟨xl, xh⟩ := x
              obtain ⟨yl, yh⟩ := y
              simp only at c0 c1 hEm d0 d1 h5 h6
              have hj0 : 0 < k2 := by omega
              have hjm : (k2 : Int) - 1 = ((k2 - 1 : Nat) : Int) := by omega
              have hjz : ((k2 - 1 : Nat) : Int) < (O.length : Int) := by omega
              have hj8 : k2 - 1 ≤ 8 := by omega
              generalize k2 - 1 = j at *
              have hwj : IntKind.i64.wrap (j : Int) = (j : Int) := by rw [IntKind.wrap_i64]; omega
              go_wp2_with fail
              refine wp_region_quiet_grown mixed (by kernel_rfl) ?_
              repeat (first | go_big_quiet_skip | (refine wpQuiet_step (fun K hK => ?_); have HK := Lib.hid hK; clear hK; go_simp; first | (refine HK.out _ ?_; clear HK K) | (apply Exists.intro; refine ⟨fun _ => ?_, HK.out _ ?_⟩; (first | (go_at_call 20; refine calls_grown (hEm _))); clear HK K)))
              refine wpQuiet_nil ?_
              intro _ hw'
              obtain ⟨⟨nq, osq⟩, hw''⟩ := hw'
              subst hw''
              have HBn := Lib.hid (Below.next Hbz.out (Nat.le_refl _) (below_grown (B := wr.heap.size) wr nq osq (Nat.le_refl _)))
              go_wp2
              go_roundw
              case rel => exact ⟨k2 + 1, by omega, by go_num, HBn.out⟩
              case measure => simp [intOf]; omega
          · have hlt2z : (O.length : Int) ≤ (k2 : Int) := by omega
            have hdk2 : decide (k2 < O.length) = false := by simp; omega
            clear Hcell Hbel Hbz Hl HO hc1 hc2 Hin Hnrm Hne
            obtain ⟨w7, hw7⟩ : ∃ w7 : World, w7 = wr := ⟨_, rfl⟩
            subst hw7
            go_wp2
            go_loopw [10, 11] (fun vT i wz => ∃ (k : Nat) (T : List Sp), k ≤ l.length ∧ i = .int .i64 k ∧ T.length = k ∧ Hid (wz.ownsRow w7.heap.size 29 2 vT T.length (T.flatMap encS)) ∧ Hid (∀ j, j < T.length → T[j]? = l[(j + n) % l.length]?) ∧ Below w7.heap.size w7 wz) (fun _ i _ => l.length - (intOf i).toNat)
            case atStart => exact ⟨0, [], Nat.zero_le _, rfl, rfl, Lib.hid (own_emptyS w7 w7.heap.size (Nat.le_refl _)), Lib.hid (fun j hj => absurd hj (by simp)), below_box _⟩
            case round =>
              obtain ⟨k3, T, hk3, rfl, hT, Hown, Hturn, hb7⟩ := hrel
              have Hbw7 : Hid (Below w.heap.size w wr) := Lib.hid (Hbwz.out.trans (hb7.mono Hbwz.out.size))
              have Hb27 : Hid (Below w2.heap.size w2 wr) := Lib.hid (Hb2z.out.trans (hb7.mono Hb2z.out.size))
              have H7 := Lib.hid hb7
              clear hb7
              by_cases hlt3 : k3 < l.length
              · have hlt3z : (k3 : Int) < (l.length : Int) := by omega
                have hdk3 : decide (k3 < l.length) = true := by simp; omega
                obtain ⟨q, hq⟩ : ∃ q, q = (k3 + n) % l.length := ⟨_, rfl⟩
                have hql : q < l.length := by rw [hq]; exact Nat.mod_lt _ (by omega)
                have hqz : (q : Int) < (l.length : Int) := by omega
                have hrem : ((k3 : Int) + (n : Int)).tmod (l.length : Int) = (q : Int) := by rw [hq, ← Int.natCast_add, Int.ofNat_tmod]
                have Hts := Lib.hid (turned_step hT Hturn.out hq.symm hql)
                have hwn : IntKind.i64.wrap (n : Int) = (n : Int) := by rw [IntKind.wrap_i64]; omega
                have hwkn : IntKind.i64.wrap ((k3 : Int) + (n : Int)) = (k3 : Int) + (n : Int) := by rw [IntKind.wrap_i64]; omega
                have hwq : IntKind.i64.wrap (q : Int) = (q : Int) := by rw [IntKind.wrap_i64]; omega
                have hl0 : ¬ (l.length : Int) = 0 := by omega
                have hlnil : l ≠ [] := by rintro rfl; simp at hlt3
                obtain ⟨rfl, c0, c1⟩ := HC0.out q hql
                have hg := (HP0.out hlnil).2
                have c0 := (Hbw7.out.cell (p := ⟨g0, o0 + q * 2, none⟩) (by exact hg)).trans c0
                have c1 := (Hbw7.out.cell (p := ⟨g0, o0 + q * 2 + 1, none⟩) (by exact hg)).trans c1
                clear hq Hturn
                generalize l[q] = x at *
                obtain ⟨xa, xb⟩ := x
                simp only at c0 c1
                go_wp2_with (at_builtin; refine append_spans rfl _ _ rfl w7.heap.size _ T rfl (Hown.out.alloc _) _ [(xa, xb)] rfl (one_spans (xa, xb)) (by simp; omega) (by simp; have := H7.out.size; omega) ?_; intro v' w8 hown8 hb8; have Hown8 := Lib.hid hown8; have H8 : Hid (Below w7.heap.size w7 w8) := Lib.hid ((H7.out.alloc H7.out.size _).trans hb8); clear hown8 hb8)
                go_roundw
                case rel => exact ⟨k3 + 1, T ++ [(xa, xb)], by omega, by go_num, by simp [hT], Hown8, Hts, H8.out⟩
                case measure => simp [intOf]; omega
              · have hlt3z : (l.length : Int) ≤ (k3 : Int) := by omega
                have hdk3 : decide (k3 < l.length) = false := by simp; omega
                have hTl : T.length = l.length := by omega
                have Hkeys := Lib.hid (turned_keys hTl Hturn.out)
                obtain ⟨pT, capT, rfl, hcT1, hcT2, hpT⟩ := own_form Hown.out
                rw [hTl] at hcT1 hpT
                have HpT := Lib.hid hpT
                have Hown0 := Hown
                unfold maxLen at hcT2
                clear hpT Hturn Hown
                rw [hTl] at Hown0
                rw [hTl]
                go_wp2
                go_loopw [12] (fun i wz => ∃ (k : Nat) (T2 : List Sp), k ≤ l.length + 1 ∧ i = .int .i64 k ∧ T2.length = l.length ∧ Hid (wz.ownsRow w7.heap.size 29 2 (.slice pT l.length capT) l.length (T2.flatMap encS)) ∧ Hid (∀ key, InL T2 key ↔ InL l key) ∧ Below w7.heap.size w7 wz) (fun i _ => l.length + 2 - (intOf i).toNat)
                case atStart => exact ⟨0, T, Nat.zero_le _, rfl, hTl, Hown0, Hkeys, H7.out⟩
                case round =>
                  clear Hbw7 Hb27 H7 Hown0 Hkeys hTl hT hlt3z hdk3 hk3
                  obtain ⟨k4, T2, hk4, rfl, hT2, Hown, Hkeys, hb7⟩ := hrel
                  have Hbw7 : Hid (Below w.heap.size w wr) := Lib.hid (Hbwz.out.trans (hb7.mono Hbwz.out.size))
                  have Hb27 : Hid (Below w2.heap.size w2 wr) := Lib.hid (Hb2z.out.trans (hb7.mono Hb2z.out.size))
                  have H7 := Lib.hid hb7
                  clear hb7
                  have hwk1 : IntKind.i64.wrap ((k4 : Int) + 1) = (k4 : Int) + 1 := by rw [IntKind.wrap_i64]; omega
                  by_cases hlt4 : k4 + 1 < l.length
                  · have hlt4z : (k4 : Int) + 1 < (l.length : Int) := by omega
                    have hlt5z : (k4 : Int) < (l.length : Int) := by omega
                    have hdk4 : decide (k4 + 1 < l.length) = true := by simp; omega
                    obtain ⟨gT, rfl⟩ := HpT.out (by omega)
                    obtain ⟨c0, c1⟩ := own_cells Hown.out k4 (by omega)
                    obtain ⟨d0, d1⟩ := own_cells Hown.out (k4 + 1) (by omega)
                    have hf := fun j => Hown.out.frozenAt j
                    have Hsw := Lib.hid (own_swap Hown.out k4 (by omega) H7.out.size)
                    have Hsk := Lib.hid (swapL_keys T2 k4 (by omega))
                    have Hsl := Lib.hid (swapL_len T2 k4 (by omega))
                    generalize swapL T2 k4 (by omega) = T3 at *
                    generalize T2[k4]'(by omega) = x at *
                    generalize T2[k4 + 1]'(by omega) = y at *
                    obtain ⟨xa, xb⟩ := x
                    obtain ⟨ya, yb⟩ := y
                    simp only at c0 c1 d0 d1
                    go_wp2
                    go_region
                    go_wp2
                    go_roundw
                    case rel => exact ⟨k4 + 2, T3, by omega, by go_num, by rw [Hsl.out]; exact hT2, Lib.hid Hsw.out.1.drew, Lib.hid (fun key => (Hsk.out key).trans (Hkeys.out key)), (H7.out.trans Hsw.out.2).drew⟩
                    case measure => simp [intOf]; omega
                  · have hlt4z : (l.length : Int) ≤ (k4 : Int) + 1 := by omega
                    have hdk4 : decide (k4 + 1 < l.length) = false := by simp; omega
                    have hN := Hof.out T2 Hkeys.out
                    have hT2s : IsSpans wr (.slice pT l.length capT) T2 := IsSpans.owned Hown.out
                    have HT2s := Lib.hid hT2s
                    have HN := Lib.hid hN
                    clear hT2s hN Hown Hkeys
                    go_wp2_with fail
                    refine (norm_w (.slice pT l.length capT) T2 _ HT2s.out (by omega)).mono ?_
                    rw [HN.out]
                    rintro e w9 ⟨vN, rfl, hown9, hb9⟩
                    have Hbw9 : Hid (Below w.heap.size w w9) := Lib.hid (Hbw7.out.trans (hb9.mono Hbw7.out.size))
                    have Hb29 : Hid (Below w2.heap.size w2 w9) := Lib.hid (Hb27.out.trans (hb9.mono Hb27.out.size))
                    have HN9 := Lib.hid (IsSpans.owned hown9)
                    clear hown9 hb9
                    go_wp2_with fail
                    refine (same_w vN (.slice pO O.length capO) _ _ _ HN9.out (HO2.out.below Hb29.out)).mono ?_
                    rw [decide_eq_true (rfl : O = O)]
                    rintro e w10 ⟨rfl, hg10⟩
                    have hb10 := hg10.below (B := w9.heap.size) (Nat.le_refl _)
                    have Hbw10 : Hid (Below w.heap.size w w10) := Lib.hid (Hbw9.out.trans (hb10.mono Hbw9.out.size))
                    have Hb210 : Hid (Below w2.heap.size w2 w10) := Lib.hid (Hb29.out.trans (hb10.mono Hb29.out.size))
                    clear hg10 hb10
                    go_wp2_with fail
                    refine (norm_w (.slice pO O.length capO) O _ (HO2.out.below Hb210.out) (by omega)).mono ?_
                    rw [Hself.out]
                    rintro e w11 ⟨vM, rfl, hown11, hb11⟩
                    have Hbw11 : Hid (Below w.heap.size w w11) := Lib.hid (Hbw10.out.trans (hb11.mono Hbw10.out.size))
                    have Hb211 : Hid (Below w2.heap.size w2 w11) := Lib.hid (Hb210.out.trans (hb11.mono Hb210.out.size))
                    have HM11 := Lib.hid (IsSpans.owned hown11)
                    clear hown11 hb11
                    go_wp2_with fail
                    refine (same_w vM (.slice pO O.length capO) _ _ _ HM11.out (HO2.out.below Hb211.out)).mono ?_
                    rw [decide_eq_true (rfl : O = O)]
                    rintro e w12 ⟨rfl, hg12⟩
                    have hb12 := hg12.below (B := w11.heap.size) (Nat.le_refl _)
                    have Hbw12 : Hid (Below w.heap.size w w12) := Lib.hid (Hbw11.out.trans (hb12.mono Hbw11.out.size))
                    have Hb212 : Hid (Below w2.heap.size w2 w12) := Lib.hid (Hb211.out.trans (hb12.mono Hb211.out.size))
                    clear hg12 hb12
                    go_wp2_with fail
                    go_ret
                    exact ⟨rfl, Hbw12.out⟩

end Go.Proofs.Ytenhjpopdmiekaa
