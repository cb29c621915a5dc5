/-
  The walk of the law EntryTotals.
-/
import Derived.Test.YtachicdkgkiiiaaEX1
import Derived.Test.YtachicdkgkiiiaaEX0
import Derived.Deep.DeepCutAuto
namespace Go.Proofs.Ytachicdkgkiiiaa
open Go.RowKit Go.Sort
set_option linter.unusedVariables false

set_option maxRecDepth 100000 in
set_option maxHeartbeats 2000000 in
theorem entryTotals_walk (w : World) (v0 : Value) (la : List Pr) (h0 : IsPairs w v0 la) (v1 : Value) (lb : List Pr) (h1 : IsPairs w v1 lb) :
    Calls Try.prog 7 #[v0, v1] w fun e w' => e = .returned (.bool true) ∧ Below w.heap.size w w' := by
  have ha := h0
  have hb := h1
  obtain ⟨pa, ca, rfl, hla1, hla2, hsa, _⟩ := h0
  obtain ⟨pb, cb, rfl, hlb1, hlb2, hsb, _⟩ := h1
  unfold maxLen at hla2 hlb2
  have HA := Lib.hid ha
  have HB := Lib.hid hb
  have Hsa := Lib.hid hsa
  have Hsb := Lib.hid hsb
  clear ha hb hsa hsb
  by_cases hl : 20 < la.length ∨ 20 < lb.length
  · by_cases hl1 : 20 < la.length
    · have d1 : 20 < (la.length : Int) := by omega
      clear hl hl1
      go_enter Try.func7, Try.ntmps7
      go_wp2_with (go_at_call 10; refine (sanity_w _).mono ?_; rintro e w1 ⟨rfl, hb1⟩; have Hb1 := Lib.hid hb1; clear hb1)
      go_ret
      exact ⟨rfl, Hb1.out⟩
    · have d1 : (la.length : Int) ≤ 20 := by omega
      have d2 : 20 < (lb.length : Int) := by omega
      clear hl hl1
      go_enter Try.func7, Try.ntmps7
      go_wp2_with (go_at_call 10; refine (sanity_w _).mono ?_; rintro e w1 ⟨rfl, hb1⟩; have Hb1 := Lib.hid hb1; clear hb1)
      go_ret
      exact ⟨rfl, Hb1.out⟩
  · have la20 : (la.length : Int) ≤ 20 := by omega
    have lb20 : (lb.length : Int) ≤ 20 := by omega
    go_enter Try.func7, Try.ntmps7
    go_upto_region 4 with (go_at_call 10; refine (sanity_w _).mono ?_; rintro e w1 ⟨rfl, hb1⟩; have Hb1 := Lib.hid hb1; clear hb1)
    have hs1 := Hb1.out.size
    go_upto_region 5 with (at_builtin; refine append_pairs rfl _ _ rfl w.heap.size _ [] rfl (own_empty w1 w.heap.size Hb1.out.size) _ la rfl ((HA.out.below Hb1.out).below (below_box _)) (by simp; omega) (by simp; omega) ?_; intro va1 w2 hown2 hbel2; have Hb2 : Hid (Below w.heap.size w w2) := Lib.hid ((Hb1.out.alloc hs1 _).trans hbel2); have Ho2 := Lib.hid hown2; clear hown2 hbel2)
    have hs2 := Hb2.out.size
    go_upto_region 6 with (at_builtin; refine append_pairs rfl _ _ rfl w.heap.size _ _ rfl Ho2.out _ lb rfl (HB.out.below Hb2.out) (by simp; omega) hs2 ?_; intro va w3 hown3 hbel3; have Hb3 : Hid (Below w.heap.size w w3) := Lib.hid (Hb2.out.trans hbel3); have Ho3 := Lib.hid hown3; clear hown3 hbel3)
    have hs3 := Hb3.out.size
    go_upto_region 7 with (at_builtin; refine append_pairs rfl _ _ rfl w3.heap.size _ [] rfl (own_empty w3 w3.heap.size (Nat.le_refl _)) _ lb rfl ((HB.out.below Hb3.out).below (below_box _)) (by simp; omega) (by simp) ?_; intro vt1 w4 hown4 hbel4; have Hb4 : Hid (Below w3.heap.size w3 w4) := Lib.hid ((below_box _).trans hbel4); have Ho4 := Lib.hid hown4; clear hown4 hbel4)
    have hs4 := Hb4.out.size
    go_upto_region 8 with (at_builtin; refine append_pairs rfl _ _ rfl w3.heap.size _ _ rfl Ho4.out _ la rfl ((HA.out.below Hb3.out).below Hb4.out) (by simp; omega) hs4 ?_; intro vt w5 hown5 hbel5; have Hb5 : Hid (Below w3.heap.size w3 w5) := Lib.hid (Hb4.out.trans hbel5); have Ho5 := Lib.hid hown5; clear hown5 hbel5)
    have hpa : IsPairs w5 va (la ++ lb) := (IsPairs.owned (l := la ++ lb) (by have h := Ho3.out; simpa using h) (fun x hx => by rcases List.mem_append.1 hx with h | h; exact Hsa.out x h; exact Hsb.out x h)).below Hb5.out
    have hpt : IsPairs w5 vt (lb ++ la) := IsPairs.owned (l := lb ++ la) (by have h := Ho5.out; simpa using h) (fun x hx => by rcases List.mem_append.1 hx with h | h; exact Hsb.out x h; exact Hsa.out x h)
    obtain ⟨L, hL⟩ : ∃ L, L = la ++ lb := ⟨_, rfl⟩
    rw [← hL] at hpa
    have hL40 : L.length ≤ 40 := by rw [hL, List.length_append]; omega
    have HL := Lib.hid hL
    clear hL
    have hsmL := hpa.small
    have HsmL := Lib.hid hsmL
    have HPA := Lib.hid hpa
    obtain ⟨g, o, cp, p, rfl, hlc, hcm, hpp, hcc⟩ := hpa.form
    unfold maxLen at hcm
    have HP := Lib.hid hpp
    have HC := Lib.hid hcc
    clear hpp hcc hsmL
    have hbe : Below w.heap.size w w5 := Hb3.out.trans (Hb5.out.mono hs3)
    have ha5 := HA.out.below hbe
    have hb5 := HB.out.below hbe
    have Hpt := Lib.hid hpt
    have Hbe := Lib.hid hbe
    have HA5 := Lib.hid ha5
    have HB5 := Lib.hid hb5
    have hs5 := hbe.size
    clear hpa hpt hbe ha5 hb5 Hb1 Hb2 Hb3 Hb4 Hb5 Ho2 Ho3 Ho4 Ho5 hs1 hs2 hs3 hs4 HA HB
    have Htwo := Lib.hid (totF_two la lb (by omega) (by omega))
    generalize hta : totF la = ta at *
    generalize htb : totF lb = tb at *
    have Hta := Lib.hid hta
    have Htb := Lib.hid htb
    clear hta htb
    obtain ⟨ta1, ta2⟩ := ta
    obtain ⟨tb1, tb2⟩ := tb
    go_wp2_with fail
    refine (total_w _ la _ HA5.out (by omega)).mono ?_
    rw [Hta.out]
    rintro e w6 ⟨rfl, hb6⟩
    have Hb6 := Lib.hid hb6
    clear hb6
    go_wp2_with fail
    refine (total_w _ lb _ ((HB5.out.below Hb6.out).below (below_box _)) (by omega)).mono ?_
    rw [Htb.out]
    rintro e w7 ⟨rfl, hb7⟩
    have hX := Blk.below (Blk.new w6 29 #[.int .i64 ta1, .int .i64 ta2]) hb7 (by simp)
    have x0 := hX.c0 0 _ rfl
    have x1 := hX.c0 1 _ rfl
    simp at x0 x1
    have hltX := hX.lt
    have Hb7 := Lib.hid hb7
    clear hb7 hX
    go_wp2_with fail
    have Hbw : Hid (Below w5.heap.size w5 w7) := Lib.hid ((Hb6.out.alloc Hb6.out.size _).trans (Hb7.out.mono (by have := Hb6.out.size; simp; omega)))
    go_loopw [12] (fun i wr => ∃ k : Nat, k ≤ L.length ∧ i = .int .i64 k ∧ Blk wr (w7.heap.size + 1 + 1) 29 #[.int .i64 (totF (L.take k)).1, .int .i64 (totF (L.take k)).2] ∧ Blk wr (w7.heap.size + 1) 29 #[.int .i64 (wrap64 (ta1 + tb1)), .int .i64 (wrap64 (ta2 + tb2))] ∧ Below w7.heap.size w7 wr ∧
      (∀ x ∈ L.take k, x.2.1.length ≤ 100)) (fun i _ => L.length - (intOf i).toNat)
    case atStart => exact ⟨0, Nat.zero_le _, rfl, Blk.new' _ _ _ (by simp), (Blk.new' _ _ _ (by simp)).alloc _, ((below_box _).alloc (by simp) _).alloc (by simp; omega) _, fun x hx => by simp at hx⟩
    case round =>
      obtain ⟨k, hk, rfl, hS, hW, hbel, hsm⟩ := hrel
      have HS := Lib.hid hS
      have HW := Lib.hid hW
      have Hbel := Lib.hid hbel
      have Hsm := Lib.hid hsm
      have hltS := hS.lt
      clear hS hW hbel hsm x0 x1
      by_cases hlt : k < L.length
      · obtain ⟨rfl, p0, p1, p2⟩ := HC.out k hlt
        have hg5 := (HP.out (by rintro rfl; simp at hlt)).2
        have hbr : Below w5.heap.size w5 wr := Hbw.out.trans (Hbel.out.mono Hbw.out.size)
        have hgr : g < wr.heap.size := Nat.lt_of_lt_of_le hg5 hbr.size
        replace p0 := (hbr.cell (p := ⟨g, o + k * 3, none⟩) (by exact hg5)).trans p0
        replace p1 := (hbr.cell (p := ⟨g, o + k * 3 + 1, none⟩) (by exact hg5)).trans p1
        replace p2 := (hbr.cell (p := ⟨g, o + k * 3 + 2, none⟩) (by exact hg5)).trans p2
        have hsx := HsmL.out _ (List.getElem_mem hlt)
        have Htk := Lib.hid (totF_take L k hlt)
        have Hmem : Hid (∀ x ∈ L.take (k + 1), x ∈ L.take k ∨ x = L[k]) := Lib.hid (fun x hx => by
          rw [List.take_add_one, List.getElem?_eq_getElem hlt] at hx
          rcases List.mem_append.1 hx with h | h
          · exact .inl h
          · exact .inr (by simpa using h))
        clear hbr
        generalize L[k] = x at *
        obtain ⟨xk, xv, xs⟩ := x
        simp only at p0 p1 p2 hsx Htk
        have Hch := Lib.hid (fun wx => charge_w xk xv xs wx hsx.1 hsx.2)
        clear hsx
        by_cases hbig : 100 < xk.length ∨ 100 < xv.length
        · by_cases hb1 : 100 < xk.length
          · have d1 : 100 < (xk.length : Int) := by omega
            clear Hch
            go_wp2_with fail
            go_ret
            exact ⟨rfl, Hbe.out.trans ((Hbw.out.trans (Hbel.out.mono Hbw.out.size)).mono hs5)⟩
          · have d1 : (xk.length : Int) ≤ 100 := by omega
            have d2 : 100 < (xv.length : Int) := by omega
            clear Hch
            go_wp2_with fail
            go_ret
            exact ⟨rfl, Hbe.out.trans ((Hbw.out.trans (Hbel.out.mono Hbw.out.size)).mono hs5)⟩
        have d1 : (xk.length : Int) ≤ 100 := by omega
        have d2 : (xv.length : Int) ≤ 100 := by omega
        have hxv : xv.length ≤ 100 := by omega
        clear hbig
        generalize htk : totF (L.take k) = tk at *
        obtain ⟨t1, t2⟩ := tk
        rcases charge_cases xk xv with hch | hch | ⟨hch, hl1⟩
        · rw [hch] at Hch Htk
          go_wp2_with (go_at_call 11; refine (Hch.out _).mono ?_; rintro e w8 ⟨rfl, hb8⟩; have hS8 := Blk.below HS.out hb8 HS.out.lt; have hW8 := Blk.below HW.out hb8 HW.out.lt; have p1' := (hb8.cell (p := ⟨g, o + k * 3 + 1, none⟩) (by exact hgr)).trans p1; have hgr8 : g < w8.heap.size := Nat.lt_of_lt_of_le hgr hb8.size; have HS8 := Lib.hid hS8; have HW8 := Lib.hid hW8; have Hb8 := Lib.hid hb8; clear hS8 hW8 hb8)
          have hS8 := HS8.out.alloc (.cells #[.int .i64 1, .int .i64 0] 29)
          have hC8 := Blk.new w8 29 #[.int .i64 1, .int .i64 0]
          have q1 : (w8.alloc (.cells #[.int .i64 1, .int .i64 0] 29)).cell? ⟨g, o + k * 3 + 1, none⟩ = some (.string (Str xv)) := (World.cell?_alloc_lt _ _ _ (by exact hgr8)).trans p1'
          have HW9 := Lib.hid (HW8.out.alloc (.cells #[.int .i64 1, .int .i64 0] 29))
          have Hb9 : Hid (Below w7.heap.size w7 (w8.alloc (.cells #[.int .i64 1, .int .i64 0] 29))) := Lib.hid ((Hbel.out.trans (Hb8.out.mono Hbel.out.size)).alloc (Nat.le_trans Hbel.out.size Hb8.out.size) _)
          have hne : w7.heap.size + 1 + 1 ≠ w8.heap.size := Nat.ne_of_lt HS8.out.lt
          generalize w8.alloc (.cells #[.int .i64 1, .int .i64 0] 29) = wy at *
          have s0 := hS8.c0 0 _ rfl
          have s1 := hS8.c0 1 _ rfl
          have f0 := hS8.free 0
          have f1 := hS8.free 1
          have c0 := hC8.c0 0 _ rfl
          have c1 := hC8.c0 1 _ rfl
          simp at s0 s1 c0 c1
          have HS9 := Lib.hid hS8
          clear p0 p1 p2 p1' hS8 hC8
          go_quiet (fail)
          go_wp2_with fail
          go_roundw
          case rel =>
            refine ⟨k + 1, by omega, by go_num, ?_, ?_, ?_, ?_⟩
            · rw [Htk.out]
              simp only [addW, Int.add_zero]
              exact ((HS9.out.drewN nq).setCell 0 _).setCell 1 _
            · exact (((HW9.out.drewN nq).setCell_other (by omega) 0 _).setCell_other (by omega) 1 _)
            · exact ((Hb9.out.trans (below_drewN _ nq)).setCell (show w7.heap.size ≤ w7.heap.size + 1 + 1 by omega) _).setCell (show w7.heap.size ≤ w7.heap.size + 1 + 1 by omega) _
            · intro x hx
              rcases Hmem.out x hx with h | rfl
              · exact Hsm.out x h
              · exact hxv
          case measure => simp [intOf]; omega
        · rw [hch] at Hch Htk
          go_wp2_with (go_at_call 11; refine (Hch.out _).mono ?_; rintro e w8 ⟨rfl, hb8⟩; have hS8 := Blk.below HS.out hb8 HS.out.lt; have hW8 := Blk.below HW.out hb8 HW.out.lt; have p1' := (hb8.cell (p := ⟨g, o + k * 3 + 1, none⟩) (by exact hgr)).trans p1; have hgr8 : g < w8.heap.size := Nat.lt_of_lt_of_le hgr hb8.size; have HS8 := Lib.hid hS8; have HW8 := Lib.hid hW8; have Hb8 := Lib.hid hb8; clear hS8 hW8 hb8)
          have hS8 := HS8.out.alloc (.cells #[.int .i64 0, .int .i64 0] 29)
          have hC8 := Blk.new w8 29 #[.int .i64 0, .int .i64 0]
          have q1 : (w8.alloc (.cells #[.int .i64 0, .int .i64 0] 29)).cell? ⟨g, o + k * 3 + 1, none⟩ = some (.string (Str xv)) := (World.cell?_alloc_lt _ _ _ (by exact hgr8)).trans p1'
          have HW9 := Lib.hid (HW8.out.alloc (.cells #[.int .i64 0, .int .i64 0] 29))
          have Hb9 : Hid (Below w7.heap.size w7 (w8.alloc (.cells #[.int .i64 0, .int .i64 0] 29))) := Lib.hid ((Hbel.out.trans (Hb8.out.mono Hbel.out.size)).alloc (Nat.le_trans Hbel.out.size Hb8.out.size) _)
          have hne : w7.heap.size + 1 + 1 ≠ w8.heap.size := Nat.ne_of_lt HS8.out.lt
          generalize w8.alloc (.cells #[.int .i64 0, .int .i64 0] 29) = wy at *
          have s0 := hS8.c0 0 _ rfl
          have s1 := hS8.c0 1 _ rfl
          have f0 := hS8.free 0
          have f1 := hS8.free 1
          have c0 := hC8.c0 0 _ rfl
          have c1 := hC8.c0 1 _ rfl
          simp at s0 s1 c0 c1
          have HS9 := Lib.hid hS8
          clear p0 p1 p2 p1' hS8 hC8
          go_quiet (fail)
          go_wp2_with fail
          go_roundw
          case rel =>
            refine ⟨k + 1, by omega, by go_num, ?_, ?_, ?_, ?_⟩
            · rw [Htk.out]
              simp only [addW, Int.add_zero]
              exact ((HS9.out.drewN nq).setCell 0 _).setCell 1 _
            · exact (((HW9.out.drewN nq).setCell_other (by omega) 0 _).setCell_other (by omega) 1 _)
            · exact ((Hb9.out.trans (below_drewN _ nq)).setCell (show w7.heap.size ≤ w7.heap.size + 1 + 1 by omega) _).setCell (show w7.heap.size ≤ w7.heap.size + 1 + 1 by omega) _
            · intro x hx
              rcases Hmem.out x hx with h | rfl
              · exact Hsm.out x h
              · exact hxv
          case measure => simp [intOf]; omega
        · rw [hch] at Hch Htk
          go_wp2_with (go_at_call 11; refine (Hch.out _).mono ?_; rintro e w8 ⟨rfl, hb8⟩; have hS8 := Blk.below HS.out hb8 HS.out.lt; have hW8 := Blk.below HW.out hb8 HW.out.lt; have p1' := (hb8.cell (p := ⟨g, o + k * 3 + 1, none⟩) (by exact hgr)).trans p1; have hgr8 : g < w8.heap.size := Nat.lt_of_lt_of_le hgr hb8.size; have HS8 := Lib.hid hS8; have HW8 := Lib.hid hW8; have Hb8 := Lib.hid hb8; clear hS8 hW8 hb8)
          have hS8 := HS8.out.alloc (.cells #[.int .i64 0, .int .i64 xv.length] 29)
          have hC8 := Blk.new w8 29 #[.int .i64 0, .int .i64 xv.length]
          have q1 : (w8.alloc (.cells #[.int .i64 0, .int .i64 xv.length] 29)).cell? ⟨g, o + k * 3 + 1, none⟩ = some (.string (Str xv)) := (World.cell?_alloc_lt _ _ _ (by exact hgr8)).trans p1'
          have HW9 := Lib.hid (HW8.out.alloc (.cells #[.int .i64 0, .int .i64 xv.length] 29))
          have Hb9 : Hid (Below w7.heap.size w7 (w8.alloc (.cells #[.int .i64 0, .int .i64 xv.length] 29))) := Lib.hid ((Hbel.out.trans (Hb8.out.mono Hbel.out.size)).alloc (Nat.le_trans Hbel.out.size Hb8.out.size) _)
          have hne : w7.heap.size + 1 + 1 ≠ w8.heap.size := Nat.ne_of_lt HS8.out.lt
          generalize w8.alloc (.cells #[.int .i64 0, .int .i64 xv.length] 29) = wy at *
          have s0 := hS8.c0 0 _ rfl
          have s1 := hS8.c0 1 _ rfl
          have f0 := hS8.free 0
          have f1 := hS8.free 1
          have c0 := hC8.c0 0 _ rfl
          have c1 := hC8.c0 1 _ rfl
          simp at s0 s1 c0 c1
          have HS9 := Lib.hid hS8
          clear p0 p1 p2 p1' hS8 hC8
          have g1 : ((xv.length : Int) != 0) = true := bne_iff_ne.2 (by omega)
          have g2 : (0 : Int) < (xv.length : Int) := by omega
          go_quiet (fail)
          go_wp2_with fail
          go_roundw
          case rel =>
            refine ⟨k + 1, by omega, by go_num, ?_, ?_, ?_, ?_⟩
            · rw [Htk.out]
              simp only [addW, Int.add_zero]
              exact ((HS9.out.drewN nq).setCell 0 _).setCell 1 _
            · exact (((HW9.out.drewN nq).setCell_other (by omega) 0 _).setCell_other (by omega) 1 _)
            · exact ((Hb9.out.trans (below_drewN _ nq)).setCell (show w7.heap.size ≤ w7.heap.size + 1 + 1 by omega) _).setCell (show w7.heap.size ≤ w7.heap.size + 1 + 1 by omega) _
            · intro x hx
              rcases Hmem.out x hx with h | rfl
              · exact Hsm.out x h
              · exact hxv
          case measure => simp [intOf]; omega
      · obtain rfl : k = L.length := by omega
        rw [List.take_length] at HS Hsm
        have hsm := Hsm.out
        rw [HL.out] at hsm
        obtain ⟨e1, e2⟩ := Htwo.out hsm
        rw [← HL.out] at e1
        have hpa := fun wx (h : Below w5.heap.size w5 wx) => total_w _ L wx (HPA.out.below h) (by omega)
        have hpt := fun wx (h : Below w5.heap.size w5 wx) => total_w vt (lb ++ la) wx (Hpt.out.below h) (by rw [List.length_append]; omega)
        rw [e1] at hpa HS
        rw [e2] at hpt
        have Hpa := Lib.hid hpa
        have Hptt := Lib.hid hpt
        clear hpa hpt e1 e2 hsm
        simp only [addW] at Hpa Hptt HS
        generalize wrap64 (ta1 + tb1) = y1 at *
        generalize wrap64 (ta2 + tb2) = y2 at *
        have hbr : Below w5.heap.size w5 wr := Hbw.out.trans (Hbel.out.mono Hbw.out.size)
        have Hbr := Lib.hid hbr
        have s0 := HS.out.c0 0 _ rfl
        have s1 := HS.out.c0 1 _ rfl
        have u0 := HW.out.c0 0 _ rfl
        have u1 := HW.out.c0 1 _ rfl
        simp at s0 s1 u0 u1
        clear hbr
        go_upto_region 22 with fail
        go_cut [4] (fun s4 wx => s4 = .bool true ∧ Below w5.heap.size w5 wx)
        case first =>
          go_region_held3 (fun wr => wr.cell? ⟨w7.heap.size + 1 + 1, 0, none⟩ = some (.int .i64 y1) ∧ wr.cell? ⟨w7.heap.size + 1 + 1, 1, none⟩ = some (.int .i64 y2) ∧ wr.cell? ⟨w7.heap.size + 1, 0, none⟩ = some (.int .i64 y1) ∧ wr.cell? ⟨w7.heap.size + 1, 1, none⟩ = some (.int .i64 y2)) (go_keep)
            (first
              | (go_at_call_of 19 (Value.slice p L.length cp); refine (Hpa.out _ (by exact Hbr.out.drew)).mono ?_; rintro e w9 ⟨rfl, hb9⟩; have hS9 := Blk.below (show Blk wr.drew _ _ _ from HS.out) hb9 HS.out.lt; have hW9 := Blk.below (show Blk wr.drew _ _ _ from HW.out) hb9 HW.out.lt; have a0 := hS9.c0 0 _ rfl; have a1 := hS9.c0 1 _ rfl; have a2 := hW9.c0 0 _ rfl; have a3 := hW9.c0 1 _ rfl; simp at a0 a1 a2 a3; have Hb9 : Hid (Below w5.heap.size w5 w9) := Lib.hid (Hbr.out.drew.trans (hb9.mono Hbr.out.size)); have HS9 := Lib.hid hS9; have HW9 := Lib.hid hW9; clear hS9 hW9 hb9)
              | (go_at_call 19; refine (Hptt.out _ (by exact Hb9.out)).mono ?_; rintro e w10 ⟨rfl, hb10⟩; have hS9 := Blk.below HS9.out hb10 HS9.out.lt; have hW9 := Blk.below HW9.out hb10 HW9.out.lt; have b0 := hS9.c0 0 _ rfl; have b1 := hS9.c0 1 _ rfl; have b2 := hW9.c0 0 _ rfl; have b3 := hW9.c0 1 _ rfl; simp at b0 b1 b2 b3; have Hb10 : Hid (Below w5.heap.size w5 w10) := Lib.hid (Hb9.out.trans (hb10.mono Hb9.out.size)); clear hS9 hW9 hb10))
          all_goals
            go_wp2_with fail
            go_meet
            exact ⟨rfl, Hb10.out⟩
        case rest =>
          obtain ⟨rfl, hB⟩ := hcut
          have HBf := Lib.hid hB
          clear hB
          go_wp2_with fail
          go_ret
          exact ⟨rfl, Hbe.out.trans (HBf.out.mono hs5)⟩

end Go.Proofs.Ytachicdkgkiiiaa
