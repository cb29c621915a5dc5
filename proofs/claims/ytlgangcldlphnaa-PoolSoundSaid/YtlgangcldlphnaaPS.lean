/-
  Walks: reference 11: Drop.
-/
import Derived.Test.YtlgangcldlphnaaPQ
import Derived.Test.YtlgangcldlphnaaPR
namespace Go.Proofs.Ytlgangcldlphnaa
open Go.RowKit Go.Sort
set_option linter.unusedVariables false
set_option maxRecDepth 100000

theorem own_blkOf {w : World} {base : Nat} {e : TypeId} {size : Nat} {v : Value} {n : Nat} {xs : List Value} (h : w.ownsRow base e size v n xs) : ∀ b, blkOf v = some b → base ≤ b := by
  intro b hb
  rcases h.2 with ⟨rfl, h0⟩ | ⟨g, cap, cur, rfl, hbb, _⟩
  · cases hb
  · injection hb with hb
    subst hb
    exact hbb
theorem ints_st8s {w : World} {v : Value} {l : List Int} (h : IsInts w v l) (g o : Nat) (s : Sv) (hne : blkOf v ≠ some g) : IsInts (st8s w g o s) v l :=
  (((((((h.set g _ _ hne).set g _ _ hne).set g _ _ hne).set g _ _ hne).set g _ _ hne).set g _ _ hne).set g _ _ hne).set g _ _ hne
theorem blk_st8s {w : World} {b : Nat} {T : TypeId} {cs : Array Value} (h : Blk w b T cs) (g o : Nat) (s : Sv) (hne : b ≠ g) : Blk (st8s w g o s) b T cs :=
  (((((((h.setCell_other hne _ _).setCell_other hne _ _).setCell_other hne _ _).setCell_other hne _ _).setCell_other hne _ _).setCell_other hne _ _).setCell_other hne _ _).setCell_other hne _ _
theorem runQ_cons (f : Nat) (P : List Sl) (k : Int) (V : List Int) : runQ (f + 1) P (k :: V) = if usedB P k then runQ f (decP P k) (V ++ decK (atP P k.toNat)) else runQ f P V := by rw [runQ]
theorem runQ_nil (f : Nat) (P : List Sl) : runQ f P [] = P := by cases f <;> rfl
/-- What the reference's Drop answers. -/
def rdropP (P : List Sl) (i : Int) : List Sl × Int := if usedB P i then (runQ (muP P [i]) P [i], 0) else (P, 110)
set_option maxHeartbeats 8000000 in
theorem rdrop_w (v : Value) (P : List Sl) (i : Int) (w0 w : World) (h0 : SlF w0 w v P) (hb0 : Below w0.heap.size w0 w) (hl : P.length ≤ 1000000) (hm : muP P [i] ≤ 1000000) (hr : ∀ i, -1000000 ≤ (atP P i).refs ∧ (atP P i).refs ≤ 1000000000) :
    Calls Try.prog 29 #[poolV v, .int .i64 i] w fun e w' => ∃ v', e = .returned (.tuple #[poolV v', .int .i64 (rdropP P i).2]) ∧ SlOut w0 w w' v v' (rdropP P i).1 := by
  have mixed := mixedA
  have h := h0.slots hb0
  have H0 := Lib.hid h0
  have HB00 := Lib.hid hb0
  have HUS := Lib.hid (fun v P i wx (h : IsSlots wx v P) => rused_w v P i wx h)
  have HR0 := Lib.hid hr
  have HM := Lib.hid hm
  have HB0 : Hid (Below w.heap.size w ((w.alloc (.cells #[v] 29)).alloc (.cells #[.slice none 0 0] 29))) := Lib.hid ((below_box _).trans ((below_box _).mono (by simp)))
  have HN : Hid (Blk ((w.alloc (.cells #[v] 29)).alloc (.cells #[.slice none 0 0] 29)) (w.heap.size + 1) 29 #[.slice none 0 0]) := Lib.hid (Blk.new' _ _ _ (by simp))
  have HP : Hid (Blk ((w.alloc (.cells #[v] 29)).alloc (.cells #[.slice none 0 0] 29)) w.heap.size 29 #[v]) := Lib.hid ((Blk.new _ _ _).alloc _)
  have H := Lib.hid h
  have HU := Lib.hid (fun wx (hx : Below w.heap.size w wx) => rused_w v P i wx (h.below hx))
  have HCL := Lib.hid (fun wx (hx : Below w.heap.size w wx) => copied_w v P w0 wx (H0.out.below hx) (hb0.trans (hx.mono hb0.size)) hl)
  obtain ⟨a, cap, rfl, -, -, -⟩ := h.slice
  clear h h0 hb0 hm hr
  by_cases hu : usedB P i = true
  · have HG : Hid (rdropP P i = (runQ (muP P [i]) P [i], 0)) := Lib.hid (by unfold rdropP; rw [if_pos hu])
    rw [hu] at HU
    clear hu
    go_enter Try.func29, Try.ntmps29
    go_wp2_with fail
    refine (HU.out _ HB0.out).mono ?_
    rintro e w1 ⟨rfl, hb⟩
    have Hb : Hid (Below w.heap.size w w1) := Lib.hid (Below.next HB0.out (Nat.le_refl _) hb)
    have p0 : w1.cell? ⟨w.heap.size, 0, none⟩ = some (.slice a P.length cap) := (HP.out.below hb HP.out.lt).c0 0 _ rfl
    have HN1 := Lib.hid (HN.out.below hb HN.out.lt)
    clear hb
    go_wp2_with fail
    refine (HCL.out _ Hb.out).mono ?_
    rintro e w2 ⟨v2, rfl, hown, hb⟩
    obtain ⟨a2, cap2, rfl, hl2, hm2, hg2⟩ := hown.form
    have HG2 := Lib.hid hg2
    have HG3 : Hid (∀ g, a2 = some ⟨g, 0, none⟩ → g < w2.heap.size ∧ w1.heap.size ≤ g) := Lib.hid (by rintro g rfl; have := hown.blk; exact ⟨this.2, this.1⟩)
    have HOb := Lib.hid (hown.blkOf)
    have Hb2 : Hid (Below w.heap.size w w2) := Lib.hid (Below.next Hb.out (Nat.le_refl _) hb)
    have HN2 := Lib.hid (HN1.out.below hb HN1.out.lt)
    have HB12 := Lib.hid hb
    obtain ⟨W3, hW3⟩ : ∃ W3, W3 = (w2.alloc (.cells #[.int .i64 i] 3)).alloc (.cells #[.slice a2 P.length cap2] 29) := ⟨_, rfl⟩
    have HB3 : Hid (Below w2.heap.size w2 W3) := Lib.hid (by rw [hW3]; exact keepP (keepP (Below.refl _ _) _) _)
    have HO3 : Hid (OwnF w0 W3 w1.heap.size (.slice a2 P.length cap2) P) := Lib.hid (hown.below HB3.out)
    have HX3 : Hid (Blk W3 (w2.heap.size + 1) 29 #[.slice a2 P.length cap2]) := Lib.hid (by rw [hW3]; exact Blk.new' _ _ _ (by simp))
    have HI3 : Hid (IsInts W3 (.slice (some ⟨w2.heap.size, 0, none⟩) 1 1) [i]) := Lib.hid (by rw [hW3]; exact (isInts_lit [i] rfl (by simp) (by simp)).below (below_box _))
    have HW3 := Lib.hid hW3
    clear hown hb p0 hg2 hW3
    go_wp2_with fail
    rw [← HW3.out]
    go_loopg [7] (muP P [i]) (fun f s7 wr => ∃ (P' : List Sl) (W' : List Int), Hid (OwnF w0 wr w1.heap.size (.slice a2 P.length cap2) P') ∧ Hid (IsInts wr s7 W') ∧ Hid (∀ b, blkOf s7 = some b → w2.heap.size ≤ b) ∧ Hid (Below w1.heap.size w1 wr) ∧ Hid (w2.heap.size ≤ wr.heap.size) ∧ Hid (Blk wr (w2.heap.size + 1) 29 #[.slice a2 P.length cap2]) ∧
      Hid (runQ f P' W' = runQ (muP P [i]) P [i]) ∧ Hid (muP P' W' ≤ f) ∧ Hid (f ≤ 1000000) ∧ Hid (∀ i, -2000000 + (f : Int) ≤ (atP P' i).refs ∧ (atP P' i).refs ≤ 1000000000) ∧ Hid (P'.length = P.length))
    case atStart =>
      exact ⟨P, [i], HO3, HI3, Lib.hid (fun b hb => by injection hb with hb; rw [← hb]; exact Nat.le_refl _), Lib.hid (HB12.out.trans (HB3.out.mono HB12.out.size)), Lib.hid HB3.out.size, HX3, Lib.hid rfl, Lib.hid (Nat.le_refl _), HM, Lib.hid (fun i => by have := HR0.out i; have := HM.out; omega), Lib.hid rfl⟩
    case round =>
      clear HO3 HI3 HB3 HX3 HCL HU
      obtain ⟨P', W', HO, HW, HWB, HB, HSZ, HX, HE, HMU, HF, HRF, HLN⟩ := hrel
      have HBw : Hid (Below w.heap.size w wr) := Lib.hid (Below.next Hb.out (Nat.le_refl _) HB.out)
      rcases W' with _ | ⟨kid, V⟩
      · obtain ⟨at0, ct, rfl, hct, -⟩ := HW.out.slice
        have HRES : Hid (P' = runQ (muP P [i]) P [i]) := Lib.hid (by rw [← HE.out, runQ_nil])
        have x0 : wr.cell? ⟨w2.heap.size + 1, 0, none⟩ = some (.slice a2 P.length cap2) := HX.out.c0 0 _ rfl
        have hR2 := HN1.out.below HB.out HN1.out.lt
        have n0 := hR2.c0 0 _ rfl
        have g0 := hR2.free 0
        have HR3 := Lib.hid hR2
        clear hR2
        simp only [List.length_nil]
        go_wp2
        have z0 := (HR3.out.setCell 0 (.slice a2 P.length cap2)).c0 0 _ rfl
        refine bodyPost_ret (v := .tuple #[poolV (.slice a2 P.length cap2), .int .i64 0]) (by simp [results, Try.results29, go_sem, z0]) rfl ?_
        have hB := HBw.out.setCell (p := ⟨w.heap.size + 1, 0, none⟩) (by simp) (.slice a2 P.length cap2)
        rw [HG.out, ← HRES.out]
        have hlt := HN1.out.lt
        refine ⟨_, rfl, (HO.out.setOther (w.heap.size + 1) 0 (.slice a2 P.length cap2) (HO.out.ne hlt)).slF, fun b hb => .inr (by have := (HO.out.blkOf b hb).1; have := Hb.out.size; omega), hB⟩
      · obtain ⟨b7, off7, cap7, a8, c8, rfl, hc7, hc7m, hb7l, q0, hsl, hI8, hB8⟩ := tail_ints HW.out
        have HI8 := Lib.hid hI8
        have HB8 := Lib.hid hB8
        have hb1 := HMU.out
        have hwl : V.length + 1 ≤ gk := by unfold muP at hb1; rw [List.length_cons] at hb1; omega
        obtain ⟨f, rfl⟩ : ∃ f, gk = f + 1 := ⟨gk - 1, by omega⟩
        have HRL := Lib.hid (runQ_cons f P' kid V)
        have x0 : wr.cell? ⟨w2.heap.size + 1, 0, none⟩ = some (.slice a2 P.length cap2) := HX.out.c0 0 _ rfl
        have HSL : Hid (IsSlots wr (.slice a2 P.length cap2) P') := Lib.hid ((HO.out.own (HB00.out.trans (HBw.out.mono HB00.out.size))).slots)
        have hvn : (V.length : Int) + 1 ≤ 9223372036854775807 := by omega
        have hvn0 : (0 : Int) < (V.length : Int) + 1 := by omega
        have hlp := HLN.out
        have hb8 := HWB.out b7 rfl
        clear hI8 hB8 hb1 hwl
        have HF1 := HF.out
        by_cases hu : usedB P' kid = true
        · obtain ⟨u0, u1⟩ := usedB_lt hu
          obtain ⟨k, rfl⟩ : ∃ k : Nat, kid = k := ⟨kid.toNat, by omega⟩
          obtain ⟨g, rfl⟩ := HG2.out (by omega)
          obtain ⟨hg3, hg4⟩ := HG3.out g rfl
          have hk : k < P'.length := by omega
          have hkz : (k : Int) < (P.length : Int) := by omega
          have HU := Lib.hid (HUS.out _ P' (k : Int) wr HSL.out)
          rw [hu] at HU
          have HRL2 : Hid (runQ (f + 1) P' ((k : Int) :: V) = runQ f (decP P' (k : Int)) (V ++ decK (atP P' k))) := Lib.hid (by rw [HRL.out, if_pos hu]; rfl)
          have HMD := Lib.hid (mu_dec (V := V) hu)
          clear hu u0 u1 HRL
          go_wp2_with fail
          refine HU.out.mono ?_
          rintro e w5 ⟨rfl, hb5⟩
          have hO5 := HO.out.below hb5
          obtain ⟨s, hs, hv⟩ := hO5.at k hk
          obtain ⟨c0, c1, c2, c3, c4, c5, c6, c7⟩ := hv
          have f2 := hO5.free (k * 8 + 2)
          have HX5 := Lib.hid (HX.out.below hb5 HX.out.lt)
          have x5 : w5.cell? ⟨w2.heap.size + 1, 0, none⟩ = some (.slice (some ⟨g, 0, none⟩) P.length cap2) := HX5.out.c0 0 _ rfl
          obtain ⟨r1, r2⟩ := HRF.out k
          rw [← hs.refs] at r1 r2
          have HS := Lib.hid hs
          have hB5 : Below w1.heap.size w1 w5 := HB.out.trans (hb5.mono HB.out.size)
          have HB6 : Hid (Below w1.heap.size w1 (w5.setCell ⟨g, k * 8 + 2, none⟩ (.int .i64 (s.refs - 1)))) := Lib.hid (hB5.setCell (by exact hg4) _)
          have HO6 := Lib.hid (hO5.refs k hk (s.refs - 1))
          have HX6 : Hid (Blk (w5.setCell ⟨g, k * 8 + 2, none⟩ (.int .i64 (s.refs - 1))) (w2.heap.size + 1) 29 #[.slice (some ⟨g, 0, none⟩) P.length cap2]) := Lib.hid (HX5.out.setCell_other (by omega) _ _)
          have HI6 : Hid (IsInts (w5.setCell ⟨g, k * 8 + 2, none⟩ (.int .i64 (s.refs - 1))) (.slice a8 V.length c8) V) := Lib.hid ((HI8.out.below hb5).set _ _ _ (fun e => by have := HB8.out _ e; omega))
          have HZ6 : Hid (w2.heap.size ≤ (w5.setCell ⟨g, k * 8 + 2, none⟩ (.int .i64 (s.refs - 1))).heap.size) := Lib.hid (by simp; exact Nat.le_trans HSZ.out hb5.size)
          clear hs hb5 hO5 hB5 c0 c1 c3 c4 c6 c7 x0
          by_cases hz : s.refs - 1 = 0
          · have hzb : ((s.refs - 1) == (0 : Int)) = true := by simpa using hz
            have HDS : Hid (decP P' (k : Int) = P'.set k zSl) := Lib.hid (by rw [decP_set, decS, ← HS.out.refs, if_pos hz])
            have HDK : Hid (decK (atP P' k) = (atP P' k).node.kids) := Lib.hid (by rw [decK, ← HS.out.refs, if_pos hz])
            have hkl : V.length + (atP P' k).node.kids.length ≤ 1000000 := by
              have h1 := HMU.out
              have h2 := HMD.out
              rw [show decK (atP P' ((k : Int)).toNat) = (atP P' k).node.kids from HDK.out] at h2
              unfold muP at *
              rw [List.length_append] at h2
              rw [List.length_cons] at h1
              omega
            have HKL := Lib.hid hkl
            clear hz hkl
            go_upto_region 10 with fail
            obtain ⟨w6, hw6⟩ : ∃ w6, w6 = w5.setCell ⟨g, k * 8 + 2, none⟩ (.int .i64 (s.refs - 1)) := ⟨_, rfl⟩
            rw [← hw6] at HB6 HO6 HX6 HI6 HZ6
            rw [← hw6]
            clear hw6 c2 c5 f2 x5
            have x6 := cell_all (show w6.cell? ⟨w2.heap.size + 1, 0, none⟩ = some (.slice (some ⟨g, 0, none⟩) P.length cap2) from HX6.out.c0 0 _ rfl)
            obtain ⟨s6, hs6, hv6⟩ := HO6.out.at k (by rw [List.length_set]; exact hk)
            have HK6 : Hid (∀ wx, Below w6.heap.size w6 wx → IsInts wx (slv s6.c) (atP P' k).node.kids) := Lib.hid (fun wx hx => by
              have := hs6.kids.below (HB00.out.trans ((Below.next Hb.out (Nat.le_refl _) (HB6.out.trans (hx.mono HB6.out.size))).mono HB00.out.size))
              rwa [atP_set k hk, if_pos rfl] at this)
            have y5 := cell_all hv6.2.2.2.2.2.1
            have HL0 : Hid (Below w6.heap.size w6 w6) := Lib.hid (Below.refl _ _)
            clear hs6 hv6
            go_region_held3 (fun wx => Below w6.heap.size w6 wx)
              (repeat (first | with_reducible assumption | with_reducible exact HL0.out | with_reducible refine Below.drew ?_ | with_reducible refine keepP ?_ _))
              (first
                | (refine step_ints rfl _ _ rfl w6.heap.size (.slice (some ⟨w6.heap.size, 0, none⟩) 0 0) [] rfl (by first | exact own_emptyI w6 _ (Nat.le_refl _) | exact owns_below (own_emptyI w6 _ (Nat.le_refl _)) (below_drewN _ 1) | exact own_emptyI w6.drew _ (Nat.le_refl _)) (.slice a8 V.length c8) V rfl (HI6.out.below (by repeat (first | with_reducible exact HL0.out | with_reducible refine Below.drew ?_ | with_reducible refine keepP ?_ _))) (by simp only [List.length_nil]; have := HKL.out; omega) (by simp) ?_; intro v3 y3 ho3 ht3; have hS3 : Below w6.heap.size w6 y3 := Below.trans (by repeat (first | with_reducible exact HL0.out | with_reducible refine Below.drew ?_ | with_reducible refine keepP ?_ _)) ht3)
                | (refine step_ints rfl _ _ rfl w6.heap.size v3 ([] ++ V) rfl (by first | with_reducible exact ho3 | with_reducible exact owns_below ho3 (below_drewN _ 1)) (slv s6.c) (atP P' k).node.kids rfl (HK6.out _ (by repeat (first | with_reducible assumption | with_reducible refine Below.drew ?_))) (by simp only [List.nil_append]; have := HKL.out; omega) (hS3.size) ?_; intro v5 y9 ho5 ht5; have hS5 : Below w6.heap.size w6 y9 := hS3.trans ht5)
                | fail "no arm")
            rw [List.nil_append] at ho5
            have hO9 := HO6.out.below hS5
            obtain ⟨s9, -, hv9⟩ := hO9.at k (by rw [List.length_set]; exact hk)
            obtain ⟨c0, c1, c2, c3, c4, c5, c6, c7⟩ := hv9
            have f0 := hO9.free (k * 8)
            have f1 := hO9.free (k * 8 + 1)
            have f2 := hO9.free (k * 8 + 2)
            have f3 := hO9.free (k * 8 + 3)
            have f4 := hO9.free (k * 8 + 4)
            have f5 := hO9.free (k * 8 + 5)
            have f6 := hO9.free (k * 8 + 6)
            have f7 := hO9.free (k * 8 + 7)
            have HO9 := Lib.hid hO9
            have HX9 := Lib.hid (HX6.out.below hS5 HX6.out.lt)
            have x9 : y9.cell? ⟨w2.heap.size + 1, 0, none⟩ = some (.slice (some ⟨g, 0, none⟩) P.length cap2) := HX9.out.c0 0 _ rfl
            have HI9 := Lib.hid (IsInts.owned ho5)
            have HV9 : Hid (∀ b, blkOf v5 = some b → w6.heap.size ≤ b) := Lib.hid (own_blkOf ho5)
            have HB9 : Hid (Below w1.heap.size w1 y9) := Lib.hid (HB6.out.trans (hS5.mono HB6.out.size))
            have HZ9 : Hid (w2.heap.size ≤ y9.heap.size) := Lib.hid (Nat.le_trans HZ6.out hS5.size)
            clear hO9 ho3 ht3 hS3 ho5 ht5 hS5 x6 y5
            go_wp2
            go_roundg f
            case measure => omega
            case rel =>
              have hgw : g < w6.heap.size := Nat.lt_of_lt_of_le hg3 HZ6.out
              have hvb : blkOf v5 ≠ some g := fun e => by have := HV9.out g e; omega
              refine ⟨decP P' (k : Int), V ++ decK (atP P' k), Lib.hid ?_, Lib.hid ?_, Lib.hid (fun b hb => Nat.le_trans HZ6.out (HV9.out b hb)), Lib.hid (below_st8s HB9.out g (k * 8) hg4 zSv), Lib.hid (by show w2.heap.size ≤ (st8s y9 g (k * 8) zSv).heap.size; rw [size_st8s]; exact HZ9.out), Lib.hid (blk_st8s HX9.out g (k * 8) zSv (by omega)), Lib.hid ?_, Lib.hid ?_, Lib.hid (by omega), Lib.hid (fun i => ?_), Lib.hid (by rw [decP_len]; exact HLN.out)⟩
              · have := HO9.out.slot k (by rw [List.length_set]; exact hk) (isSl_zero w0)
                rw [List.set_set] at this
                rw [HDS.out]
                exact this
              · rw [HDK.out]
                exact ints_st8s HI9.out g (k * 8) zSv hvb
              · rw [← HE.out, HRL2.out]
              · have h1 := HMU.out
                have h2 := HMD.out
                rw [show decK (atP P' ((k : Int)).toNat) = decK (atP P' k) from rfl] at h2
                rw [h2]; unfold muP at *; rw [List.length_cons] at h1; omega
              · rw [HDS.out, atP_set i hk]
                split
                · show -2000000 + (f : Int) ≤ 0 ∧ (0 : Int) ≤ 1000000000
                  omega
                · have := HRF.out i; omega
          · have hzb : ((s.refs - 1) == (0 : Int)) = false := by simpa using hz
            have HDS : Hid (decP P' (k : Int) = P'.set k { atP P' k with refs := s.refs - 1 }) := Lib.hid (by rw [decP_set, decS, ← HS.out.refs, if_neg hz])
            have HDK : Hid (decK (atP P' k) = []) := Lib.hid (by rw [decK, ← HS.out.refs, if_neg hz])
            clear hz
            go_wp2
            go_roundg f
            case measure => omega
            case rel =>
              refine ⟨decP P' (k : Int), V, Lib.hid (by rw [HDS.out]; exact HO6.out), HI6, Lib.hid (fun b hb => by rw [HB8.out b hb]; exact hb8), HB6, HZ6, HX6, Lib.hid ?_, Lib.hid ?_, Lib.hid (by omega), Lib.hid (fun i => ?_), Lib.hid (by rw [decP_len]; exact HLN.out)⟩
              · rw [← HE.out, HRL2.out, HDK.out, List.append_nil]
              · have h1 := HMU.out
                have h2 := HMD.out
                rw [show decK (atP P' ((k : Int)).toNat) = [] from HDK.out, List.append_nil] at h2
                rw [h2]; unfold muP at *; rw [List.length_cons] at h1; omega
              · rw [HDS.out, atP_set i hk]
                split
                · show -2000000 + (f : Int) ≤ s.refs - 1 ∧ s.refs - 1 ≤ 1000000000
                  omega
                · have := HRF.out i; omega
        · have hu : usedB P' kid = false := by simpa using hu
          have HU := Lib.hid (HUS.out _ P' kid wr HSL.out)
          rw [hu] at HU
          have HRL2 : Hid (runQ (f + 1) P' (kid :: V) = runQ f P' V) := Lib.hid (by rw [HRL.out, if_neg (by rw [hu]; simp)])
          clear hu HRL
          go_wp2_with fail
          refine HU.out.mono ?_
          rintro e w5 ⟨rfl, hb5⟩
          have HB5 := Lib.hid hb5
          clear hb5 x0
          go_wp2
          go_roundg f
          case measure => omega
          case rel =>
            refine ⟨P', V, Lib.hid (HO.out.below HB5.out), Lib.hid (HI8.out.below HB5.out), Lib.hid (fun b hb => by rw [HB8.out b hb]; exact hb8), Lib.hid (HB.out.trans (HB5.out.mono HB.out.size)), Lib.hid (Nat.le_trans HSZ.out HB5.out.size), Lib.hid (HX.out.below HB5.out HX.out.lt), Lib.hid (HRL2.out.symm.trans HE.out), Lib.hid (by have := HMU.out; unfold muP at *; rw [List.length_cons] at this; omega), Lib.hid (by have := HF.out; omega), Lib.hid (fun i => by have := HRF.out i; omega), HLN⟩
  · have hu : usedB P i = false := by simpa using hu
    have HG : Hid (rdropP P i = (P, 110)) := Lib.hid (by unfold rdropP; rw [hu]; rfl)
    rw [hu] at HU
    clear hu
    go_enter Try.func29, Try.ntmps29
    go_wp2_with fail
    refine (HU.out _ HB0.out).mono ?_
    rintro e w1 ⟨rfl, hb⟩
    have Hb : Hid (Below w.heap.size w w1) := Lib.hid (Below.next HB0.out (Nat.le_refl _) hb)
    have hN1 := HN.out.below hb HN.out.lt
    have p0 : w1.cell? ⟨w.heap.size, 0, none⟩ = some (.slice a P.length cap) := (HP.out.below hb HP.out.lt).c0 0 _ rfl
    have n0 := hN1.c0 0 _ rfl
    have g0 := hN1.free 0
    have HN1 := Lib.hid hN1
    clear hb hN1
    go_wp2
    have z0 := (HN1.out.setCell 0 (.slice a P.length cap)).c0 0 _ rfl
    refine bodyPost_ret (v := .tuple #[poolV (.slice a P.length cap), .int .i64 110]) (by simp [results, Try.results29, go_sem, z0]) rfl ?_
    rw [HG.out]
    have hB := Hb.out.setCell (p := ⟨w.heap.size + 1, 0, none⟩) (by simp) (.slice a P.length cap)
    exact ⟨_, rfl, H0.out.below hB, fun b hb => .inl rfl, hB⟩

end Go.Proofs.Ytlgangcldlphnaa
