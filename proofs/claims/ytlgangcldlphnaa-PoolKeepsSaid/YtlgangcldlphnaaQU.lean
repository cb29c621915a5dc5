/-
  Walks: the law PoolKeeps (gen_qu.py).
-/
import Derived.Test.YtlgangcldlphnaaQT
namespace Go.Proofs.Ytlgangcldlphnaa
open Go.RowKit Go.Sort
set_option linter.unusedVariables false
set_option maxRecDepth 100000

structure KeepAt (w1 : World) (l : List R4) (k : Nat) (v u : Value) (wx : World) : Prop where
  blk : Blk wx w1.heap.size 32 #[v, u]
  sl : IsSlots wx v (playX (l.take k)).1
  ints : IsInts wx u (playX (l.take k)).2
  bel : Below w1.heap.size w1 wx
/-- Where the next state lies. -/
def StepR (wr : World) (R2 : List Int) (s6 : Value) (wx : World) : Prop := ∃ b6 a4 n4 c4 a3 c3, s6 = .pointer (some ⟨b6, 0, none⟩) ∧ wr.heap.size ≤ b6 ∧ Blk wx b6 32 #[.slice a4 n4 c4, .slice a3 R2.length c3] ∧ IsInts wx (.slice a3 R2.length c3) R2 ∧ Below wr.heap.size wr wx
theorem StepR.fresh {wr wx : World} {R2 : List Int} {a4 a3 : Option Addr} {n4 c4 c3 : Nat} (hi : IsInts wx (.slice a3 R2.length c3) R2) (hb : Below wr.heap.size wr wx) :
    StepR wr R2 (.pointer (some ⟨wx.heap.size, 0, none⟩)) (wx.alloc (.cells #[.slice a4 n4 c4, .slice a3 R2.length c3] 32)) :=
  ⟨_, _, _, _, _, _, rfl, hb.size, Blk.new _ _ _, hi.below (below_box _), keepP hb _⟩
theorem StepR.stored {wr wx : World} {R2 : List Int} {b : Nat} {a4 a3 z0 z1 : Option Addr} {n4 c4 c3 m0 m1 k0 k1 : Nat} (hz : Blk wx b 32 #[.slice z0 m0 k0, .slice z1 m1 k1]) (hi : IsInts wx (.slice a3 R2.length c3) R2) (hb : Below wr.heap.size wr wx) (hle : wr.heap.size ≤ b) :
    StepR wr R2 (.pointer (some ⟨b, 0, none⟩)) ((wx.setCell ⟨b, 0, none⟩ (.slice a4 n4 c4)).setCell ⟨b, 1, none⟩ (.slice a3 R2.length c3)) :=
  ⟨_, _, _, _, _, _, rfl, hle, (hz.setCell 0 _).setCell 1 _, ints_butS hi (onlyS2 hz) ((ButP.setCell b 0 _ _).trans (ButP.setCell b 1 _ _)), (hb.setCell (p := ⟨b, 0, none⟩) hle _).setCell (p := ⟨b, 1, none⟩) hle _⟩
/-- Where the pool lies that the law made. -/
def KpR (wc : World) (b7 : Nat) (P2 : List Sl) (wx : World) : Prop := ∃ a c, Blk wx b7 29 #[.slice a P2.length c] ∧ IsSlots wx (.slice a P2.length c) P2 ∧ Below wc.heap.size wc wx
theorem KpR.stored {wc W7 wx : World} {b7 : Nat} {P2 : List Sl} {a z : Option Addr} {c m k : Nat} (h67 : Below wc.heap.size wc W7) (hb : Below W7.heap.size W7 wx) (hs : IsSlots wx (.slice a P2.length c) P2) (hbare : ∀ i, Bare (atP P2 i).node) (hz : Blk wx b7 29 #[.slice z m k]) (hle : wc.heap.size ≤ b7) :
    KpR wc b7 P2 (wx.setCell ⟨b7, 0, none⟩ (.slice a P2.length c)) :=
  ⟨a, c, hz.setCell 0 _, slots_butS hs hbare (onlyS1 hz) (ButP.setCell _ _ _ _), (h67.trans (hb.mono h67.size)).setCell (p := ⟨b7, 0, none⟩) hle _⟩
theorem getD_at {R : List Int} {m : Nat} (h : m < R.length) : R.getD m 0 = R[m] := by rw [List.getD_eq_getElem?_getD, List.getElem?_eq_getElem h]; rfl
set_option maxHeartbeats 16000000 in
theorem poolKeeps_walk (w : World) (v0 : Value) (l : List R4) (r0 : IsRaws w v0 l) :
    Calls Try.prog 5 #[v0] w fun e w' => e = .returned (.bool true) ∧ Below w.heap.size w w' := by
  have mixed := mixedA
  have HR0 := Lib.hid r0
  obtain ⟨-, ra, rc, rfl, hlm, -⟩ := r0
  go_enter Try.func5, Try.ntmps5
  go_wp2_with fail
  refine (lsan_w _).mono ?_
  rintro e w1 ⟨rfl, hb⟩
  have HG := Lib.hid hb
  have HRW := Lib.hid (HR0.out.below hb)
  clear hb HR0
  obtain ⟨W2, hW2⟩ : ∃ W2, W2 = w1.alloc (.cells #[.slice none 0 0, .slice none 0 0] 32) := ⟨_, rfl⟩
  have HK0 : Hid (KeepAt w1 l 0 (.slice none 0 0) (.slice none 0 0) W2) := Lib.hid (by rw [hW2]; exact ⟨Blk.new _ _ _, IsSlots.nil _, IsInts.nil _, below_box _⟩)
  have HW2 := Lib.hid hW2
  clear hW2
  go_wp2_with fail
  rw [← HW2.out]
  go_loopw [5] (fun i wr => ∃ (k : Nat) (a1 a2 : Option Addr) (n1 c1 n2 c2 : Nat), k ≤ 16 ∧ k ≤ l.length ∧ i = .int .i64 k ∧ Hid (KeepAt w1 l k (.slice a1 n1 c1) (.slice a2 n2 c2) wr)) (fun i _ => 16 - (intOf i).toNat)
  case atStart => exact ⟨0, _, _, _, _, _, _, Nat.zero_le _, Nat.zero_le _, rfl, HK0⟩
  case round =>
    clear HK0
    obtain ⟨k, a1, a2, n1, c1, n2, c2, hk16, hkl, rfl, HK⟩ := hrel
    by_cases hact : k < l.length ∧ k < 16
    · obtain ⟨h1, h2⟩ := hact
      have hlz : (k : Int) < (l.length : Int) := by omega
      have hnz2 : (k : Int) < 16 := by omega
      obtain ⟨b5, off5, cap5, he, -, hok, y0, y1, y2, y3⟩ := raw_at (HRW.out.below HK.out.bel) k h1
      injection he with he1 he2 he3
      subst he1 he3
      clear he2
      have HST : Hid (playX (l.take (k + 1)) = stepX (playX (l.take k)).1 (playX (l.take k)).2 l[k]) := Lib.hid (by rw [List.take_succ_eq_append_getElem h1, playX_snoc])
      have HGD : Hid (Good (playX (l.take k)).1 (playX (l.take k)).2 k) := Lib.hid (by
        have e : (l.take k).length = k := by rw [List.length_take]; omega
        have := good_play (l.take k) (by omega)
        rw [e] at this; exact this)
      have HSL := Lib.hid HK.out.sl
      have HIN := Lib.hid HK.out.ints
      have HBL := Lib.hid HK.out.blk
      have HBE := Lib.hid HK.out.bel
      clear HK
      generalize (playX (l.take k)).1 = P at *
      generalize (playX (l.take k)).2 = R at *
      obtain ⟨n1', e1', rfl⟩ : ∃ q, n1 = q ∧ q = P.length := ⟨n1, rfl, by obtain ⟨_, _, e, -⟩ := HSL.out.slice; injection e⟩
      subst e1'
      obtain ⟨n2', e2', rfl⟩ : ∃ q, n2 = q ∧ q = R.length := ⟨n2, rfl, by obtain ⟨_, _, e, -⟩ := HIN.out.slice; injection e⟩
      subst e2'
      have hpn := HGD.out.plen
      have hrn := HGD.out.rlen
      generalize l[k] = x at *
      obtain ⟨z0, z1, z2, z3⟩ := x
      have HOK := Lib.hid hok
      obtain ⟨hx0, hx1, hx2, hx3⟩ := hok
      simp only at hx0 hx1 hx2 hx3 y0 y1 y2 y3
      have y0 := cell_all y0
      have y1 := cell_all y1
      have y2 := cell_all y2
      have y3 := cell_all y3
      obtain ⟨P2, hP2⟩ : ∃ P2, P2 = (stepX P R ⟨z0, z1, z2, z3⟩).1 := ⟨_, rfl⟩
      obtain ⟨R2, hR2⟩ : ∃ R2, R2 = (stepX P R ⟨z0, z1, z2, z3⟩).2 := ⟨_, rfl⟩
      have HGX : Hid (Good P2 R2 (k + 1)) := Lib.hid (by rw [hP2, hR2]; exact good_step HGD.out (by omega))
      have HSTEP : Hid (∀ wx, Below wr.heap.size wr wx → Calls Try.prog 33 #[.agg #[.slice a1 P.length c1, .slice a2 R.length c2], r4V ⟨z0, z1, z2, z3⟩] wx fun e w' => ∃ a3 n3 c3 a4 c4, e = .returned (.agg #[.slice a3 n3 c3, .slice a4 R2.length c4]) ∧ IsInts w' (.slice a4 R2.length c4) R2 ∧ Below wr.heap.size wr w' ∧ Below wx.heap.size wx w') := Lib.hid (fun wx hx => (step_w _ _ P R k ⟨z0, z1, z2, z3⟩ wx HOK.out (HSL.out.below hx) (HIN.out.below hx) HGD.out (by omega)).mono fun e w' h => by
        obtain ⟨v3, u3, rfl, h3, h4, h5⟩ := h
        obtain ⟨a3, c3, rfl, -⟩ := h3.slice
        obtain ⟨a4, c4, rfl, -⟩ := h4.slice
        rw [← hR2] at h4 ⊢
        exact ⟨_, _, _, _, _, rfl, h4, hx.trans (h5.mono hx.size), h5⟩)
      have HP2 := Lib.hid hP2
      have HR2 := Lib.hid hR2
      clear hP2 hR2
      have HLW : Hid (Below wr.heap.size wr wr) := Lib.hid (Below.refl _ _)
      have b0 := cell_all (HBL.out.c0 0 _ rfl)
      have b1 := cell_all (HBL.out.c0 1 _ rfl)
      have hb1z : w1.heap.size < wr.heap.size := HBL.out.lt
      go_upto_region 6 with fail
      go_cut [6] (fun s6 wx => Hid (StepR wr R2 s6 wx))
      case first =>
        go_region_held3 (fun wx => Below wr.heap.size wr wx)
          (repeat (first | with_reducible assumption | with_reducible exact HLW.out | with_reducible refine Below.drew ?_ | with_reducible refine keepP ?_ _ | with_reducible refine keepQ ?_ _ (Nat.le_refl _) _))
          (first
            | (go_at_call 33; (with_reducible refine (HSTEP.out _ (by repeat (first | with_reducible assumption | with_reducible exact HLW.out | with_reducible refine Below.drew ?_ | with_reducible refine keepP ?_ _))).mono ?_); rintro e2 y9 ⟨a3, n3, c3, a4, c4, rfl, hi4, hS2, hT2⟩; (first | (have hz := blk_made hT2; have q0 := hz.c0 0 _ rfl; have q1 := hz.c0 1 _ rfl; have f0 := hz.free 0; have f1 := hz.free 1) | (have hz := blk_madeP hT2; have q0 := hz.c0 0 _ rfl; have q1 := hz.c0 1 _ rfl; have f0 := hz.free 0; have f1 := hz.free 1) | skip))
            | fail "no arm")
        all_goals (go_wp2_with fail; go_meet)
        all_goals
          first
          | exact Lib.hid (StepR.fresh hi4 hS2)
          | exact Lib.hid (StepR.stored hz hi4 hS2 (Nat.le_refl _))
      case rest =>
        obtain ⟨b6, a4, n4, c4, a3, c3, rfl, hle6, hX6, hI6, hB6⟩ := hcut.out
        have HX6 := Lib.hid hX6
        have HI6 := Lib.hid hI6
        have HB6 := Lib.hid hB6
        clear hcut hX6 hI6 hB6 HSTEP HLW
        obtain ⟨wq, hwq⟩ : ∃ wq, wq = wc := ⟨_, rfl⟩
        subst hwq
        obtain ⟨W7, hW7⟩ : ∃ W7, W7 = wq.alloc (.cells #[.slice a1 P.length c1] 29) := ⟨_, rfl⟩
        have HB67 : Hid (Below wq.heap.size wq W7) := Lib.hid (by rw [hW7]; exact below_box _)
        have HXP : Hid (Blk W7 wq.heap.size 29 #[.slice a1 P.length c1]) := Lib.hid (by rw [hW7]; exact Blk.new _ _ _)
        have HB7 : Hid (Below wr.heap.size wr W7) := Lib.hid (HB6.out.trans (HB67.out.mono HB6.out.size))
        have hsW : wr.heap.size ≤ W7.heap.size := HB7.out.size
        have HW7 := Lib.hid hW7
        clear hW7
        have b00 := b0 _ HB6.out
        obtain ⟨m0, hm0⟩ : ∃ m0 : Nat, m0 = z0 % 8 := ⟨_, rfl⟩
        have hmz : (z0 : Int) % 8 = (m0 : Int) := by omega
        have hmt : (z0 : Int).tmod 8 = (m0 : Int) := by rw [Int.tmod_eq_emod_of_nonneg (by omega)]; exact hmz
        have hm8 : m0 < 8 := by omega
        have HM0 := Lib.hid hm0
        have hy0z : (z0 : Int) < 256 := by omega
        have hy1z : (z1 : Int) < 256 := by omega
        clear hm0
        have hh0 := b0 _ HB7.out
        have hh1 := b1 _ HB7.out
        have x0 := y0 _ HB7.out
        have x1 := y1 _ HB7.out
        go_upto_region 8 with fail
        rw [← HW7.out]
        clear b00
        by_cases hadd : m0 < 5 ∨ R.length = 0
        · have HSA : Hid ((addP P (nodeX ⟨z0, z1, z2, z3⟩ R)).1 = P2 ∧ R2 = R ++ [(addP P (nodeX ⟨z0, z1, z2, z3⟩ R)).2.1] ∧ (addP P (nodeX ⟨z0, z1, z2, z3⟩ R)).2.2 = 0) := Lib.hid (by
            have hc : z0 % 8 < 5 ∨ R.length = 0 := by have := HM0.out; omega
            have e : stepX P R ⟨z0, z1, z2, z3⟩ = ((addP P (nodeX ⟨z0, z1, z2, z3⟩ R)).1, R ++ [(addP P (nodeX ⟨z0, z1, z2, z3⟩ R)).2.1]) := by unfold stepX; exact if_pos hc
            refine ⟨by rw [HP2.out, e], by rw [HR2.out, e], ?_⟩
            rw [add_yes HGD.out kidsX_mem (by omega)])
          have HNODE := Lib.hid (fun wx (hb : Below wr.heap.size wr wx) => node_w ⟨z0, z1, z2, z3⟩ (.slice a2 R.length c2) R wx HOK.out (HIN.out.below hb) (by omega))
          have HADD := Lib.hid (fun wx (hb : Below wr.heap.size wr wx) w1 nv (hb1 : Below wr.heap.size wr w1) (hn : IsNode w1 nv (nodeX ⟨z0, z1, z2, z3⟩ R)) (hnx : IsNode wx nv (nodeX ⟨z0, z1, z2, z3⟩ R)) => laddF_w (.slice a1 P.length c1) nv P (nodeX ⟨z0, z1, z2, z3⟩ R) w1 wx ((HSL.out.slF.below hb).elder hb1) (HSL.out.below hb) hn hnx (by omega) (Nat.le_trans (kidsX_len _ R) (by decide)) (fun i _ => by have := HGD.out.refs i; omega))
          have HBARE : Hid (∀ i, Bare (atP (addP P (nodeX ⟨z0, z1, z2, z3⟩ R)).1 i).node) := Lib.hid (by rw [HSA.out.1]; exact HGX.out.bare)
          by_cases h5 : m0 < 5
          · have h5z : (m0 : Int) < 5 := by omega
            go_upto_if 43 with fail
            go_cut [10] (fun s10 wx => Hid (KpR wq wq.heap.size P2 wx))
            case first =>
              go_upto_region 9 with fail
              have yA := fun wx (hx : Below W7.heap.size W7 wx) => y0 wx (HB7.out.trans (hx.mono HB7.out.size))
              have yB := fun wx (hx : Below W7.heap.size W7 wx) => y1 wx (HB7.out.trans (hx.mono HB7.out.size))
              have yC := fun wx (hx : Below W7.heap.size W7 wx) => y2 wx (HB7.out.trans (hx.mono HB7.out.size))
              have yD := fun wx (hx : Below W7.heap.size W7 wx) => y3 wx (HB7.out.trans (hx.mono HB7.out.size))
              have bA := fun wx (hx : Below W7.heap.size W7 wx) => b0 wx (HB7.out.trans (hx.mono HB7.out.size))
              have bB := fun wx (hx : Below W7.heap.size W7 wx) => b1 wx (HB7.out.trans (hx.mono HB7.out.size))
              clear y0 y1 y2 y3 b0 b1 x0 x1 hh0 hh1
              go_cut [8] (fun s8 wx => ∃ b a3 c3, s8 = .pointer (some ⟨b, 0, none⟩) ∧ Hid (AddOk2 W7 P (nodeX ⟨z0, z1, z2, z3⟩ R) b (.slice a3 (addP P (nodeX ⟨z0, z1, z2, z3⟩ R)).1.length c3) wx))
              case first =>
                go_region_held3 (fun wx => Below W7.heap.size W7 wx)
                  (repeat (first | with_reducible assumption | with_reducible exact Below.refl _ _ | with_reducible refine bdrew ?_ | with_reducible refine keepP ?_ _ | with_reducible refine below_set3 ?_ _ (by omega) _ _ _))
                  (first
                    | (go_at_call 13; have hq : Below W7.heap.size W7 W7 := Below.refl _ _; (first | (refine (HNODE.out _ (by first | exact HB7.out | exact bdrew HB7.out)).mono ?_; rintro e w2 ⟨nv, rfl, hn2, hb2, -⟩; have hS2 : Below W7.heap.size W7 w2 := (show Below W7.heap.size W7 _ by first | exact hq | exact bdrew hq).trans hb2) | (refine (HNODE.out _ (by first | exact bdrew (keepP HB7.out _) | exact keepP HB7.out _)).mono ?_; rintro e w2 ⟨nv, rfl, hn2, hb2, hnew⟩; have hS2 : Below W7.heap.size W7 w2 := (show Below W7.heap.size W7 _ by first | exact bdrew (keepP hq _) | exact keepP hq _).trans (hb2.mono (by simp)); have hz2 : Blk w2 W7.heap.size 44 #[.slice none 0 0, .int .i64 0, .int .i64 0] := (by first | exact blk_made hb2 | exact blk_madeP hb2); obtain ⟨wh, hh1, hh2, hh3, hhs⟩ := hole_ex w2 W7.heap.size; have hnh := node_hole hn2 (bare_nodeX _ _) hnew (by simp) hh1)); have hs2 : W7.heap.size ≤ w2.heap.size := hS2.size; clear hb2)
                    | (go_at_call 15; (first | (have hSc : Below W7.heap.size W7 _ := hS2; have hS2c : Below w2.heap.size w2 w2 := Below.refl _ _; refine (HADD.out _ (HB7.out.trans (hSc.mono HB7.out.size)) wh nv ((HB7.out.trans (hS2.mono HB7.out.size)).trans (hh1.below (B := wr.heap.size) (by omega) (by omega))) hnh (hn2.below hS2c)).mono ?_; rintro e w3 ⟨v3, rfl, hout⟩; obtain ⟨a3, c3, rfl⟩ : ∃ a3 c3, v3 = .slice a3 (addP P (nodeX ⟨z0, z1, z2, z3⟩ R)).1.length c3 := (by obtain ⟨L, _, a3, cap3, e3, _⟩ := hout.sl; exact ⟨a3, cap3, e3⟩); have hS3 : Below W7.heap.size W7 w3 := hSc.trans (hout.bel.mono hSc.size); have hz3 : Blk w3 W7.heap.size 44 #[.slice none 0 0, .int .i64 0, .int .i64 0] := (hz2.below hS2c hz2.lt).below hout.bel (Nat.lt_of_lt_of_le hz2.lt hS2c.size); have n0 := hz3.c0 0 _ rfl; have n1 := hz3.c0 1 _ rfl; have n2 := hz3.c0 2 _ rfl; have f0 := hz3.free 0; have f1 := hz3.free 1; have f2 := hz3.free 2; have HF := Lib.hid (hout.far2 HSL.out); have HOUT := Lib.hid hout; have HSC := Lib.hid hSc; have HS2C := Lib.hid hS2c; clear hout hSc hS2c) | (have hSc : Below W7.heap.size W7 _ := bdrew hS2; have hS2c : Below w2.heap.size w2 _ := bdrew (Below.refl w2.heap.size w2); refine (HADD.out _ (HB7.out.trans (hSc.mono HB7.out.size)) wh nv ((HB7.out.trans (hS2.mono HB7.out.size)).trans (hh1.below (B := wr.heap.size) (by omega) (by omega))) hnh (hn2.below hS2c)).mono ?_; rintro e w3 ⟨v3, rfl, hout⟩; obtain ⟨a3, c3, rfl⟩ : ∃ a3 c3, v3 = .slice a3 (addP P (nodeX ⟨z0, z1, z2, z3⟩ R)).1.length c3 := (by obtain ⟨L, _, a3, cap3, e3, _⟩ := hout.sl; exact ⟨a3, cap3, e3⟩); have hS3 : Below W7.heap.size W7 w3 := hSc.trans (hout.bel.mono hSc.size); have hz3 : Blk w3 W7.heap.size 44 #[.slice none 0 0, .int .i64 0, .int .i64 0] := (hz2.below hS2c hz2.lt).below hout.bel (Nat.lt_of_lt_of_le hz2.lt hS2c.size); have n0 := hz3.c0 0 _ rfl; have n1 := hz3.c0 1 _ rfl; have n2 := hz3.c0 2 _ rfl; have f0 := hz3.free 0; have f1 := hz3.free 1; have f2 := hz3.free 2; have HF := Lib.hid (hout.far2 HSL.out); have HOUT := Lib.hid hout; have HSC := Lib.hid hSc; have HS2C := Lib.hid hS2c; clear hout hSc hS2c) | (have hSc : Below W7.heap.size W7 _ := hS2; have hS2c : Below w2.heap.size w2 w2 := Below.refl _ _; refine (HADD.out _ (HB7.out.trans (hSc.mono HB7.out.size)) w2 nv (HB7.out.trans (hS2.mono HB7.out.size)) hn2 (hn2.below hS2c)).mono ?_; rintro e w3 ⟨v3, rfl, hout⟩; obtain ⟨a3, c3, rfl⟩ : ∃ a3 c3, v3 = .slice a3 (addP P (nodeX ⟨z0, z1, z2, z3⟩ R)).1.length c3 := (by obtain ⟨L, _, a3, cap3, e3, _⟩ := hout.sl; exact ⟨a3, cap3, e3⟩); have hS3 : Below W7.heap.size W7 w3 := hSc.trans (hout.bel.mono hSc.size); (first | (have hz3 : Blk w3 w2.heap.size 44 #[.slice none 0 0, .int .i64 0, .int .i64 0] := (by first | exact blk_made hout.bel | exact blk_madeP hout.bel); have n0 := hz3.c0 0 _ rfl; have n1 := hz3.c0 1 _ rfl; have n2 := hz3.c0 2 _ rfl; have f0 := hz3.free 0; have f1 := hz3.free 1; have f2 := hz3.free 2) | skip); have HF := Lib.hid (hout.far2 HSL.out); have HOUT := Lib.hid hout; have HSC := Lib.hid hSc; have HS2C := Lib.hid hS2c; clear hout hSc hS2c) | (have hSc : Below W7.heap.size W7 _ := bdrew hS2; have hS2c : Below w2.heap.size w2 _ := bdrew (Below.refl w2.heap.size w2); refine (HADD.out _ (HB7.out.trans (hSc.mono HB7.out.size)) w2 nv (HB7.out.trans (hS2.mono HB7.out.size)) hn2 (hn2.below hS2c)).mono ?_; rintro e w3 ⟨v3, rfl, hout⟩; obtain ⟨a3, c3, rfl⟩ : ∃ a3 c3, v3 = .slice a3 (addP P (nodeX ⟨z0, z1, z2, z3⟩ R)).1.length c3 := (by obtain ⟨L, _, a3, cap3, e3, _⟩ := hout.sl; exact ⟨a3, cap3, e3⟩); have hS3 : Below W7.heap.size W7 w3 := hSc.trans (hout.bel.mono hSc.size); (first | (have hz3 : Blk w3 w2.heap.size 44 #[.slice none 0 0, .int .i64 0, .int .i64 0] := (by first | exact blk_made hout.bel | exact blk_madeP hout.bel); have n0 := hz3.c0 0 _ rfl; have n1 := hz3.c0 1 _ rfl; have n2 := hz3.c0 2 _ rfl; have f0 := hz3.free 0; have f1 := hz3.free 1; have f2 := hz3.free 2) | skip); have HF := Lib.hid (hout.far2 HSL.out); have HOUT := Lib.hid hout; have HSC := Lib.hid hSc; have HS2C := Lib.hid hS2c; clear hout hSc hS2c) | (have hSc : Below W7.heap.size W7 _ := keepP hS2 (.cells #[.slice none 0 0, .int .i64 0, .int .i64 0] 44); have hS2c : Below w2.heap.size w2 _ := keepP (Below.refl w2.heap.size w2) (.cells #[.slice none 0 0, .int .i64 0, .int .i64 0] 44); refine (HADD.out _ (HB7.out.trans (hSc.mono HB7.out.size)) w2 nv (HB7.out.trans (hS2.mono HB7.out.size)) hn2 (hn2.below hS2c)).mono ?_; rintro e w3 ⟨v3, rfl, hout⟩; obtain ⟨a3, c3, rfl⟩ : ∃ a3 c3, v3 = .slice a3 (addP P (nodeX ⟨z0, z1, z2, z3⟩ R)).1.length c3 := (by obtain ⟨L, _, a3, cap3, e3, _⟩ := hout.sl; exact ⟨a3, cap3, e3⟩); have hS3 : Below W7.heap.size W7 w3 := hSc.trans (hout.bel.mono hSc.size); (first | (have hz3 : Blk w3 w2.heap.size 44 #[.slice none 0 0, .int .i64 0, .int .i64 0] := (by first | exact blk_made hout.bel | exact blk_madeP hout.bel); have n0 := hz3.c0 0 _ rfl; have n1 := hz3.c0 1 _ rfl; have n2 := hz3.c0 2 _ rfl; have f0 := hz3.free 0; have f1 := hz3.free 1; have f2 := hz3.free 2) | skip); have HF := Lib.hid (hout.far2 HSL.out); have HOUT := Lib.hid hout; have HSC := Lib.hid hSc; have HS2C := Lib.hid hS2c; clear hout hSc hS2c) | (have hSc : Below W7.heap.size W7 _ := bdrew (keepP hS2 (.cells #[.slice none 0 0, .int .i64 0, .int .i64 0] 44)); have hS2c : Below w2.heap.size w2 _ := bdrew (keepP (Below.refl w2.heap.size w2) (.cells #[.slice none 0 0, .int .i64 0, .int .i64 0] 44)); refine (HADD.out _ (HB7.out.trans (hSc.mono HB7.out.size)) w2 nv (HB7.out.trans (hS2.mono HB7.out.size)) hn2 (hn2.below hS2c)).mono ?_; rintro e w3 ⟨v3, rfl, hout⟩; obtain ⟨a3, c3, rfl⟩ : ∃ a3 c3, v3 = .slice a3 (addP P (nodeX ⟨z0, z1, z2, z3⟩ R)).1.length c3 := (by obtain ⟨L, _, a3, cap3, e3, _⟩ := hout.sl; exact ⟨a3, cap3, e3⟩); have hS3 : Below W7.heap.size W7 w3 := hSc.trans (hout.bel.mono hSc.size); (first | (have hz3 : Blk w3 w2.heap.size 44 #[.slice none 0 0, .int .i64 0, .int .i64 0] := (by first | exact blk_made hout.bel | exact blk_madeP hout.bel); have n0 := hz3.c0 0 _ rfl; have n1 := hz3.c0 1 _ rfl; have n2 := hz3.c0 2 _ rfl; have f0 := hz3.free 0; have f1 := hz3.free 1; have f2 := hz3.free 2) | skip); have HF := Lib.hid (hout.far2 HSL.out); have HOUT := Lib.hid hout; have HSC := Lib.hid hSc; have HS2C := Lib.hid hS2c; clear hout hSc hS2c)))
                    | fail "no arm")
                all_goals
                  go_wp2
                  go_meet
                  first
                    | exact ⟨_, a3, c3, rfl, Lib.hid (AddOk2.holed hz3 HOUT.out HF.out HBARE.out hh3 hh2 HS2C.out HSC.out hsW (Nat.le_refl _) (Nat.lt_of_lt_of_le hz2.lt HS2C.out.size))⟩
                    | exact ⟨_, a3, c3, rfl, Lib.hid (AddOk2.fresh HOUT.out HSC.out HS2C.out)⟩
                    | exact ⟨_, a3, c3, rfl, Lib.hid (AddOk2.stored hz3 HOUT.out HF.out HSC.out HS2C.out hsW hs2 (Nat.le_refl _) (by simp))⟩

              case rest =>
                obtain ⟨b8, a2, c2, rfl, HAD⟩ := hcut
                have HAB := Lib.hid HAD.out.blk
                have HASL := Lib.hid HAD.out.sl
                have HBC := Lib.hid HAD.out.bel
                have hlt8 := HAD.out.le
                clear HAD
                have HP2 : Hid ((addP P (nodeX ⟨z0, z1, z2, z3⟩ R)).1 = P2) := Lib.hid HSA.out.1
                have HER : Hid ((addP P (nodeX ⟨z0, z1, z2, z3⟩ R)).2.2 = 0) := Lib.hid HSA.out.2.2
                have HR2 : Hid (R2 = R ++ [(addP P (nodeX ⟨z0, z1, z2, z3⟩ R)).2.1]) := Lib.hid HSA.out.2.1
                rw [HP2.out] at HASL HAB
                rw [HER.out] at HAB
                clear HP2 HER
                generalize (addP P (nodeX ⟨z0, z1, z2, z3⟩ R)).2.1 = f at *
                have q0 := HAB.out.c0 0 _ rfl
                have q1 := HAB.out.c0 1 _ rfl
                have q2 := HAB.out.c0 2 _ rfl
                have HX6c := Lib.hid (HX6.out.below (HB67.out.trans (HBC.out.mono HB67.out.size)) HX6.out.lt)
                have r1 := HX6c.out.c0 1 _ rfl
                have hn2 : R2.length = R.length + 1 := by rw [HR2.out]; simp
                obtain ⟨b5, off5, cap5, he, hbl5, hlz5, zl⟩ := at_int (HI6.out.below (HB67.out.trans (HBC.out.mono HB67.out.size))) R.length (by omega)
                injection he with he1 he2 he3
                subst he1 he3
                clear he2
                have hlast : R2[R.length]'(by omega) = f := by simp [HR2.out]
                rw [hlast] at zl
                have hz1 : (R2.length : Int) - 1 = (R.length : Int) := by omega
                have hz2 : IntKind.i64.wrap (R.length : Int) = (R.length : Int) := IntWalk.i64_in _ (by omega)
                have hz3 : ((R2.length : Int) == 0) = false := beq_false_of_ne (by omega)
                have hz4 : (R.length : Int) < (R2.length : Int) := by omega
                have hz5 : (f != f) = false := by simp
                have HN2 := Lib.hid hn2
                have HXP8 := Lib.hid (HXP.out.below HBC.out HXP.out.lt)
                have f0 := HXP8.out.free 0
                have p7 := HXP8.out.c0 0 _ rfl
                clear hlast hn2
                go_upto_region 10 with fail
                go_quiet (fail)
                obtain ⟨wd, hwd⟩ : ∃ wd, wd = wc.drewN nq := ⟨_, rfl⟩
                have HBD : Hid (Below wc.heap.size wc wd) := Lib.hid (by rw [hwd]; exact below_drewN _ _)
                rw [← hwd]
                have q0 := (HAB.out.below HBD.out HAB.out.lt).c0 0 _ rfl
                have HXP9 := Lib.hid (HXP8.out.below HBD.out HXP8.out.lt)
                have f0 := HXP9.out.free 0
                have p7 := HXP9.out.c0 0 _ rfl
                have HSL9 := Lib.hid (HASL.out.below HBD.out)
                clear hwd q1 q2 r1 zl hz1 hz2 hz3 hz4 hz5
                go_wp2_with fail
                go_meet
                exact Lib.hid (KpR.stored HB67.out (HBC.out.trans (HBD.out.mono HBC.out.size)) HSL9.out HGX.out.bare HXP9.out (Nat.le_refl _))
            case rest =>
              clear b0 b1 y0 y1 y2 y3 hh0 hh1 x0 x1 HADD HNODE
              obtain ⟨ap, cp, hXp, hSp, hBp⟩ := hcut.out
              clear hcut
              have p7 := hXp.c0 0 _ rfl
              have r1 := (HX6.out.below hBp HX6.out.lt).c0 1 _ rfl
              have HSp := Lib.hid hSp
              have HSD := Lib.hid (g_sound HGX.out (by omega) hSp (HI6.out.below hBp))
              have HBp := Lib.hid hBp
              have HXp := Lib.hid hXp
              clear hXp hSp hBp
              go_wp2_with fail
              refine HSD.out.mono ?_
              rintro e w11 ⟨rfl, hb11⟩
              have HB11 : Hid (Below wr.heap.size wr w11) := Lib.hid (HB6.out.trans ((HBp.out.trans (hb11.mono HBp.out.size)).mono HB6.out.size))
              have p7 := (HXp.out.below hb11 HXp.out.lt).c0 0 _ rfl
              have r1 := (HX6.out.below (HBp.out.trans (hb11.mono HBp.out.size)) HX6.out.lt).c0 1 _ rfl
              have HBX := Lib.hid (HBL.out.below HB11.out HBL.out.lt)
              have g0 := HBX.out.c0 0 _ rfl
              have g1 := HBX.out.c0 1 _ rfl
              have f0 := HBX.out.free 0
              have f1 := HBX.out.free 1
              have HS11 := Lib.hid (HSp.out.below hb11)
              have HI11 := Lib.hid (HI6.out.below (HBp.out.trans (hb11.mono HBp.out.size)))
              clear hb11 HSD
              go_wp2
              go_roundw
              case rel =>
                have hbut := (ButP.setCell w1.heap.size 0 (.slice ap P2.length cp) w11).trans (ButP.setCell w1.heap.size 1 (.slice a3 R2.length c3) _)
                refine ⟨k + 1, ap, a3, P2.length, cp, R2.length, c3, by omega, by omega, by go_num, Lib.hid ⟨(HBX.out.setCell 0 _).setCell 1 _, ?_, ?_, ((HBE.out.trans (HB11.out.mono HBE.out.size)).setCell (p := ⟨w1.heap.size, 0, none⟩) (Nat.le_refl _) _).setCell (p := ⟨w1.heap.size, 1, none⟩) (Nat.le_refl _) _⟩⟩
                · rw [HST.out, ← HP2.out]
                  exact slots_butS HS11.out HGX.out.bare (onlyS2 HBX.out) hbut
                · rw [HST.out, ← HR2.out]
                  exact ints_butS HI11.out (onlyS2 HBX.out) hbut
              case measure => simp [intOf]; omega
          · have h5z : ¬ (m0 : Int) < 5 := by omega
            have hl0z : ((R.length : Int) == 0) = true := by
              have : R.length = 0 := by omega
              rw [this]; rfl
            go_upto_if 43 with fail
            go_cut [10] (fun s10 wx => Hid (KpR wq wq.heap.size P2 wx))
            case first =>
              go_upto_region 9 with fail
              have yA := fun wx (hx : Below W7.heap.size W7 wx) => y0 wx (HB7.out.trans (hx.mono HB7.out.size))
              have yB := fun wx (hx : Below W7.heap.size W7 wx) => y1 wx (HB7.out.trans (hx.mono HB7.out.size))
              have yC := fun wx (hx : Below W7.heap.size W7 wx) => y2 wx (HB7.out.trans (hx.mono HB7.out.size))
              have yD := fun wx (hx : Below W7.heap.size W7 wx) => y3 wx (HB7.out.trans (hx.mono HB7.out.size))
              have bA := fun wx (hx : Below W7.heap.size W7 wx) => b0 wx (HB7.out.trans (hx.mono HB7.out.size))
              have bB := fun wx (hx : Below W7.heap.size W7 wx) => b1 wx (HB7.out.trans (hx.mono HB7.out.size))
              clear y0 y1 y2 y3 b0 b1 x0 x1 hh0 hh1
              go_cut [8] (fun s8 wx => ∃ b a3 c3, s8 = .pointer (some ⟨b, 0, none⟩) ∧ Hid (AddOk2 W7 P (nodeX ⟨z0, z1, z2, z3⟩ R) b (.slice a3 (addP P (nodeX ⟨z0, z1, z2, z3⟩ R)).1.length c3) wx))
              case first =>
                go_region_held3 (fun wx => Below W7.heap.size W7 wx)
                  (repeat (first | with_reducible assumption | with_reducible exact Below.refl _ _ | with_reducible refine bdrew ?_ | with_reducible refine keepP ?_ _ | with_reducible refine below_set3 ?_ _ (by omega) _ _ _))
                  (first
                    | (go_at_call 13; have hq : Below W7.heap.size W7 W7 := Below.refl _ _; (first | (refine (HNODE.out _ (by first | exact HB7.out | exact bdrew HB7.out)).mono ?_; rintro e w2 ⟨nv, rfl, hn2, hb2, -⟩; have hS2 : Below W7.heap.size W7 w2 := (show Below W7.heap.size W7 _ by first | exact hq | exact bdrew hq).trans hb2) | (refine (HNODE.out _ (by first | exact bdrew (keepP HB7.out _) | exact keepP HB7.out _)).mono ?_; rintro e w2 ⟨nv, rfl, hn2, hb2, hnew⟩; have hS2 : Below W7.heap.size W7 w2 := (show Below W7.heap.size W7 _ by first | exact bdrew (keepP hq _) | exact keepP hq _).trans (hb2.mono (by simp)); have hz2 : Blk w2 W7.heap.size 44 #[.slice none 0 0, .int .i64 0, .int .i64 0] := (by first | exact blk_made hb2 | exact blk_madeP hb2); obtain ⟨wh, hh1, hh2, hh3, hhs⟩ := hole_ex w2 W7.heap.size; have hnh := node_hole hn2 (bare_nodeX _ _) hnew (by simp) hh1)); have hs2 : W7.heap.size ≤ w2.heap.size := hS2.size; clear hb2)
                    | (go_at_call 15; (first | (have hSc : Below W7.heap.size W7 _ := hS2; have hS2c : Below w2.heap.size w2 w2 := Below.refl _ _; refine (HADD.out _ (HB7.out.trans (hSc.mono HB7.out.size)) wh nv ((HB7.out.trans (hS2.mono HB7.out.size)).trans (hh1.below (B := wr.heap.size) (by omega) (by omega))) hnh (hn2.below hS2c)).mono ?_; rintro e w3 ⟨v3, rfl, hout⟩; obtain ⟨a3, c3, rfl⟩ : ∃ a3 c3, v3 = .slice a3 (addP P (nodeX ⟨z0, z1, z2, z3⟩ R)).1.length c3 := (by obtain ⟨L, _, a3, cap3, e3, _⟩ := hout.sl; exact ⟨a3, cap3, e3⟩); have hS3 : Below W7.heap.size W7 w3 := hSc.trans (hout.bel.mono hSc.size); have hz3 : Blk w3 W7.heap.size 44 #[.slice none 0 0, .int .i64 0, .int .i64 0] := (hz2.below hS2c hz2.lt).below hout.bel (Nat.lt_of_lt_of_le hz2.lt hS2c.size); have n0 := hz3.c0 0 _ rfl; have n1 := hz3.c0 1 _ rfl; have n2 := hz3.c0 2 _ rfl; have f0 := hz3.free 0; have f1 := hz3.free 1; have f2 := hz3.free 2; have HF := Lib.hid (hout.far2 HSL.out); have HOUT := Lib.hid hout; have HSC := Lib.hid hSc; have HS2C := Lib.hid hS2c; clear hout hSc hS2c) | (have hSc : Below W7.heap.size W7 _ := bdrew hS2; have hS2c : Below w2.heap.size w2 _ := bdrew (Below.refl w2.heap.size w2); refine (HADD.out _ (HB7.out.trans (hSc.mono HB7.out.size)) wh nv ((HB7.out.trans (hS2.mono HB7.out.size)).trans (hh1.below (B := wr.heap.size) (by omega) (by omega))) hnh (hn2.below hS2c)).mono ?_; rintro e w3 ⟨v3, rfl, hout⟩; obtain ⟨a3, c3, rfl⟩ : ∃ a3 c3, v3 = .slice a3 (addP P (nodeX ⟨z0, z1, z2, z3⟩ R)).1.length c3 := (by obtain ⟨L, _, a3, cap3, e3, _⟩ := hout.sl; exact ⟨a3, cap3, e3⟩); have hS3 : Below W7.heap.size W7 w3 := hSc.trans (hout.bel.mono hSc.size); have hz3 : Blk w3 W7.heap.size 44 #[.slice none 0 0, .int .i64 0, .int .i64 0] := (hz2.below hS2c hz2.lt).below hout.bel (Nat.lt_of_lt_of_le hz2.lt hS2c.size); have n0 := hz3.c0 0 _ rfl; have n1 := hz3.c0 1 _ rfl; have n2 := hz3.c0 2 _ rfl; have f0 := hz3.free 0; have f1 := hz3.free 1; have f2 := hz3.free 2; have HF := Lib.hid (hout.far2 HSL.out); have HOUT := Lib.hid hout; have HSC := Lib.hid hSc; have HS2C := Lib.hid hS2c; clear hout hSc hS2c) | (have hSc : Below W7.heap.size W7 _ := hS2; have hS2c : Below w2.heap.size w2 w2 := Below.refl _ _; refine (HADD.out _ (HB7.out.trans (hSc.mono HB7.out.size)) w2 nv (HB7.out.trans (hS2.mono HB7.out.size)) hn2 (hn2.below hS2c)).mono ?_; rintro e w3 ⟨v3, rfl, hout⟩; obtain ⟨a3, c3, rfl⟩ : ∃ a3 c3, v3 = .slice a3 (addP P (nodeX ⟨z0, z1, z2, z3⟩ R)).1.length c3 := (by obtain ⟨L, _, a3, cap3, e3, _⟩ := hout.sl; exact ⟨a3, cap3, e3⟩); have hS3 : Below W7.heap.size W7 w3 := hSc.trans (hout.bel.mono hSc.size); (first | (have hz3 : Blk w3 w2.heap.size 44 #[.slice none 0 0, .int .i64 0, .int .i64 0] := (by first | exact blk_made hout.bel | exact blk_madeP hout.bel); have n0 := hz3.c0 0 _ rfl; have n1 := hz3.c0 1 _ rfl; have n2 := hz3.c0 2 _ rfl; have f0 := hz3.free 0; have f1 := hz3.free 1; have f2 := hz3.free 2) | skip); have HF := Lib.hid (hout.far2 HSL.out); have HOUT := Lib.hid hout; have HSC := Lib.hid hSc; have HS2C := Lib.hid hS2c; clear hout hSc hS2c) | (have hSc : Below W7.heap.size W7 _ := bdrew hS2; have hS2c : Below w2.heap.size w2 _ := bdrew (Below.refl w2.heap.size w2); refine (HADD.out _ (HB7.out.trans (hSc.mono HB7.out.size)) w2 nv (HB7.out.trans (hS2.mono HB7.out.size)) hn2 (hn2.below hS2c)).mono ?_; rintro e w3 ⟨v3, rfl, hout⟩; obtain ⟨a3, c3, rfl⟩ : ∃ a3 c3, v3 = .slice a3 (addP P (nodeX ⟨z0, z1, z2, z3⟩ R)).1.length c3 := (by obtain ⟨L, _, a3, cap3, e3, _⟩ := hout.sl; exact ⟨a3, cap3, e3⟩); have hS3 : Below W7.heap.size W7 w3 := hSc.trans (hout.bel.mono hSc.size); (first | (have hz3 : Blk w3 w2.heap.size 44 #[.slice none 0 0, .int .i64 0, .int .i64 0] := (by first | exact blk_made hout.bel | exact blk_madeP hout.bel); have n0 := hz3.c0 0 _ rfl; have n1 := hz3.c0 1 _ rfl; have n2 := hz3.c0 2 _ rfl; have f0 := hz3.free 0; have f1 := hz3.free 1; have f2 := hz3.free 2) | skip); have HF := Lib.hid (hout.far2 HSL.out); have HOUT := Lib.hid hout; have HSC := Lib.hid hSc; have HS2C := Lib.hid hS2c; clear hout hSc hS2c) | (have hSc : Below W7.heap.size W7 _ := keepP hS2 (.cells #[.slice none 0 0, .int .i64 0, .int .i64 0] 44); have hS2c : Below w2.heap.size w2 _ := keepP (Below.refl w2.heap.size w2) (.cells #[.slice none 0 0, .int .i64 0, .int .i64 0] 44); refine (HADD.out _ (HB7.out.trans (hSc.mono HB7.out.size)) w2 nv (HB7.out.trans (hS2.mono HB7.out.size)) hn2 (hn2.below hS2c)).mono ?_; rintro e w3 ⟨v3, rfl, hout⟩; obtain ⟨a3, c3, rfl⟩ : ∃ a3 c3, v3 = .slice a3 (addP P (nodeX ⟨z0, z1, z2, z3⟩ R)).1.length c3 := (by obtain ⟨L, _, a3, cap3, e3, _⟩ := hout.sl; exact ⟨a3, cap3, e3⟩); have hS3 : Below W7.heap.size W7 w3 := hSc.trans (hout.bel.mono hSc.size); (first | (have hz3 : Blk w3 w2.heap.size 44 #[.slice none 0 0, .int .i64 0, .int .i64 0] := (by first | exact blk_made hout.bel | exact blk_madeP hout.bel); have n0 := hz3.c0 0 _ rfl; have n1 := hz3.c0 1 _ rfl; have n2 := hz3.c0 2 _ rfl; have f0 := hz3.free 0; have f1 := hz3.free 1; have f2 := hz3.free 2) | skip); have HF := Lib.hid (hout.far2 HSL.out); have HOUT := Lib.hid hout; have HSC := Lib.hid hSc; have HS2C := Lib.hid hS2c; clear hout hSc hS2c) | (have hSc : Below W7.heap.size W7 _ := bdrew (keepP hS2 (.cells #[.slice none 0 0, .int .i64 0, .int .i64 0] 44)); have hS2c : Below w2.heap.size w2 _ := bdrew (keepP (Below.refl w2.heap.size w2) (.cells #[.slice none 0 0, .int .i64 0, .int .i64 0] 44)); refine (HADD.out _ (HB7.out.trans (hSc.mono HB7.out.size)) w2 nv (HB7.out.trans (hS2.mono HB7.out.size)) hn2 (hn2.below hS2c)).mono ?_; rintro e w3 ⟨v3, rfl, hout⟩; obtain ⟨a3, c3, rfl⟩ : ∃ a3 c3, v3 = .slice a3 (addP P (nodeX ⟨z0, z1, z2, z3⟩ R)).1.length c3 := (by obtain ⟨L, _, a3, cap3, e3, _⟩ := hout.sl; exact ⟨a3, cap3, e3⟩); have hS3 : Below W7.heap.size W7 w3 := hSc.trans (hout.bel.mono hSc.size); (first | (have hz3 : Blk w3 w2.heap.size 44 #[.slice none 0 0, .int .i64 0, .int .i64 0] := (by first | exact blk_made hout.bel | exact blk_madeP hout.bel); have n0 := hz3.c0 0 _ rfl; have n1 := hz3.c0 1 _ rfl; have n2 := hz3.c0 2 _ rfl; have f0 := hz3.free 0; have f1 := hz3.free 1; have f2 := hz3.free 2) | skip); have HF := Lib.hid (hout.far2 HSL.out); have HOUT := Lib.hid hout; have HSC := Lib.hid hSc; have HS2C := Lib.hid hS2c; clear hout hSc hS2c)))
                    | fail "no arm")
                all_goals
                  go_wp2
                  go_meet
                  first
                    | exact ⟨_, a3, c3, rfl, Lib.hid (AddOk2.holed hz3 HOUT.out HF.out HBARE.out hh3 hh2 HS2C.out HSC.out hsW (Nat.le_refl _) (Nat.lt_of_lt_of_le hz2.lt HS2C.out.size))⟩
                    | exact ⟨_, a3, c3, rfl, Lib.hid (AddOk2.fresh HOUT.out HSC.out HS2C.out)⟩
                    | exact ⟨_, a3, c3, rfl, Lib.hid (AddOk2.stored hz3 HOUT.out HF.out HSC.out HS2C.out hsW hs2 (Nat.le_refl _) (by simp))⟩

              case rest =>
                obtain ⟨b8, a2, c2, rfl, HAD⟩ := hcut
                have HAB := Lib.hid HAD.out.blk
                have HASL := Lib.hid HAD.out.sl
                have HBC := Lib.hid HAD.out.bel
                have hlt8 := HAD.out.le
                clear HAD
                have HP2 : Hid ((addP P (nodeX ⟨z0, z1, z2, z3⟩ R)).1 = P2) := Lib.hid HSA.out.1
                have HER : Hid ((addP P (nodeX ⟨z0, z1, z2, z3⟩ R)).2.2 = 0) := Lib.hid HSA.out.2.2
                have HR2 : Hid (R2 = R ++ [(addP P (nodeX ⟨z0, z1, z2, z3⟩ R)).2.1]) := Lib.hid HSA.out.2.1
                rw [HP2.out] at HASL HAB
                rw [HER.out] at HAB
                clear HP2 HER
                generalize (addP P (nodeX ⟨z0, z1, z2, z3⟩ R)).2.1 = f at *
                have q0 := HAB.out.c0 0 _ rfl
                have q1 := HAB.out.c0 1 _ rfl
                have q2 := HAB.out.c0 2 _ rfl
                have HX6c := Lib.hid (HX6.out.below (HB67.out.trans (HBC.out.mono HB67.out.size)) HX6.out.lt)
                have r1 := HX6c.out.c0 1 _ rfl
                have hn2 : R2.length = R.length + 1 := by rw [HR2.out]; simp
                obtain ⟨b5, off5, cap5, he, hbl5, hlz5, zl⟩ := at_int (HI6.out.below (HB67.out.trans (HBC.out.mono HB67.out.size))) R.length (by omega)
                injection he with he1 he2 he3
                subst he1 he3
                clear he2
                have hlast : R2[R.length]'(by omega) = f := by simp [HR2.out]
                rw [hlast] at zl
                have hz1 : (R2.length : Int) - 1 = (R.length : Int) := by omega
                have hz2 : IntKind.i64.wrap (R.length : Int) = (R.length : Int) := IntWalk.i64_in _ (by omega)
                have hz3 : ((R2.length : Int) == 0) = false := beq_false_of_ne (by omega)
                have hz4 : (R.length : Int) < (R2.length : Int) := by omega
                have hz5 : (f != f) = false := by simp
                have HN2 := Lib.hid hn2
                have HXP8 := Lib.hid (HXP.out.below HBC.out HXP.out.lt)
                have f0 := HXP8.out.free 0
                have p7 := HXP8.out.c0 0 _ rfl
                clear hlast hn2
                go_upto_region 10 with fail
                go_quiet (fail)
                obtain ⟨wd, hwd⟩ : ∃ wd, wd = wc.drewN nq := ⟨_, rfl⟩
                have HBD : Hid (Below wc.heap.size wc wd) := Lib.hid (by rw [hwd]; exact below_drewN _ _)
                rw [← hwd]
                have q0 := (HAB.out.below HBD.out HAB.out.lt).c0 0 _ rfl
                have HXP9 := Lib.hid (HXP8.out.below HBD.out HXP8.out.lt)
                have f0 := HXP9.out.free 0
                have p7 := HXP9.out.c0 0 _ rfl
                have HSL9 := Lib.hid (HASL.out.below HBD.out)
                clear hwd q1 q2 r1 zl hz1 hz2 hz3 hz4 hz5
                go_wp2_with fail
                go_meet
                exact Lib.hid (KpR.stored HB67.out (HBC.out.trans (HBD.out.mono HBC.out.size)) HSL9.out HGX.out.bare HXP9.out (Nat.le_refl _))
            case rest =>
              clear b0 b1 y0 y1 y2 y3 hh0 hh1 x0 x1 HADD HNODE
              obtain ⟨ap, cp, hXp, hSp, hBp⟩ := hcut.out
              clear hcut
              have p7 := hXp.c0 0 _ rfl
              have r1 := (HX6.out.below hBp HX6.out.lt).c0 1 _ rfl
              have HSp := Lib.hid hSp
              have HSD := Lib.hid (g_sound HGX.out (by omega) hSp (HI6.out.below hBp))
              have HBp := Lib.hid hBp
              have HXp := Lib.hid hXp
              clear hXp hSp hBp
              go_wp2_with fail
              refine HSD.out.mono ?_
              rintro e w11 ⟨rfl, hb11⟩
              have HB11 : Hid (Below wr.heap.size wr w11) := Lib.hid (HB6.out.trans ((HBp.out.trans (hb11.mono HBp.out.size)).mono HB6.out.size))
              have p7 := (HXp.out.below hb11 HXp.out.lt).c0 0 _ rfl
              have r1 := (HX6.out.below (HBp.out.trans (hb11.mono HBp.out.size)) HX6.out.lt).c0 1 _ rfl
              have HBX := Lib.hid (HBL.out.below HB11.out HBL.out.lt)
              have g0 := HBX.out.c0 0 _ rfl
              have g1 := HBX.out.c0 1 _ rfl
              have f0 := HBX.out.free 0
              have f1 := HBX.out.free 1
              have HS11 := Lib.hid (HSp.out.below hb11)
              have HI11 := Lib.hid (HI6.out.below (HBp.out.trans (hb11.mono HBp.out.size)))
              clear hb11 HSD
              go_wp2
              go_roundw
              case rel =>
                have hbut := (ButP.setCell w1.heap.size 0 (.slice ap P2.length cp) w11).trans (ButP.setCell w1.heap.size 1 (.slice a3 R2.length c3) _)
                refine ⟨k + 1, ap, a3, P2.length, cp, R2.length, c3, by omega, by omega, by go_num, Lib.hid ⟨(HBX.out.setCell 0 _).setCell 1 _, ?_, ?_, ((HBE.out.trans (HB11.out.mono HBE.out.size)).setCell (p := ⟨w1.heap.size, 0, none⟩) (Nat.le_refl _) _).setCell (p := ⟨w1.heap.size, 1, none⟩) (Nat.le_refl _) _⟩⟩
                · rw [HST.out, ← HP2.out]
                  exact slots_butS HS11.out HGX.out.bare (onlyS2 HBX.out) hbut
                · rw [HST.out, ← HR2.out]
                  exact ints_butS HI11.out (onlyS2 HBX.out) hbut
              case measure => simp [intOf]; omega
        · have h5z : ¬ (m0 : Int) < 5 := by omega
          have hlp : 0 < R.length := by omega
          have hlz2 : ((R.length : Int) == 0) = false := by simpa using List.length_pos_iff.1 hlp
          go_upto_if 43 with fail
          go_cut [10] (fun s10 wx => Hid (KpR wq wq.heap.size P2 wx))
          case first =>
            obtain ⟨m, hm⟩ : ∃ m : Nat, m = z1 % R.length := ⟨_, rfl⟩
            have hml : m < R.length := by rw [hm]; exact Nat.mod_lt _ hlp
            have hrz : (z1 : Int) % (R.length : Int) = (m : Int) := by rw [hm]; exact (Int.natCast_emod z1 R.length).symm
            have hrt : (z1 : Int).tmod (R.length : Int) = (m : Int) := by rw [Int.tmod_eq_emod_of_nonneg (by omega)]; exact hrz
            have hyw : IntKind.i64.wrap (z1 : Int) = (z1 : Int) := IntWalk.i64_in _ (by omega)
            have hrw : IntKind.i64.wrap (m : Int) = (m : Int) := IntWalk.i64_in _ (by omega)
            have hn0 : ¬ ((R.length : Int) = 0) := by omega
            have hrn : ¬ (R = []) := List.length_pos_iff.1 hlp
            have hn1 : ¬ ((R.length : Int) = -1) := by omega
            have hmlz : (m : Int) < (R.length : Int) := by omega
            obtain ⟨b9, off9, cap9, he, hbl9, hlz9, zm⟩ := at_int (HIN.out.below HB7.out) m hml
            injection he with he1 he2 he3
            subst he1 he3
            clear he2
            rw [← getD_at hml] at zm
            have HM := Lib.hid hm
            have HPH : Hid (m0 = 5 → (holdP P (R.getD m 0)).1 = P2) := Lib.hid (fun h => by
              have e : stepX P R ⟨z0, z1, z2, z3⟩ = ((holdP P (R.getD (z1 % R.length) 0)).1, R ++ [R.getD (z1 % R.length) 0]) := by
                unfold stepX; rw [if_neg (by have := HM0.out; show ¬ (z0 % 8 < 5 ∨ R.length = 0); omega), if_pos (by have := HM0.out; show z0 % 8 = 5; omega)]
              rw [HP2.out, e, HM.out])
            have HPD : Hid (¬ m0 = 5 → (rdropP P (R.getD m 0)).1 = P2) := Lib.hid (fun h => by
              have e : (stepX P R ⟨z0, z1, z2, z3⟩).1 = (rdropP P (R.getD (z1 % R.length) 0)).1 := by
                unfold stepX; rw [if_neg (by have := HM0.out; show ¬ (z0 % 8 < 5 ∨ R.length = 0); omega), if_neg (by have := HM0.out; show ¬ z0 % 8 = 5; omega)]
              rw [HP2.out, e, HM.out])
            have HKH := Lib.hid (fun wx (hx : Below wr.heap.size wr wx) => k_hold (v := .slice a1 P.length c1) HGD.out hml (by omega) (HSL.out.below hx))
            have HKD := Lib.hid (fun wx (hx : Below wr.heap.size wr wx) => k_drop (v := .slice a1 P.length c1) HGD.out hml (by omega) (HSL.out.below hx))
            clear hm
            generalize R.getD m 0 = id at *
            go_upto_region 13 with fail
            go_quiet (fail)
            obtain ⟨wd, hwd⟩ : ∃ wd, wd = W7.drewN nq := ⟨_, rfl⟩
            have HBD : Hid (Below W7.heap.size W7 wd) := Lib.hid (by rw [hwd]; exact below_drewN _ _)
            rw [← hwd]
            clear hwd zm hrz hrt hyw hrw hn0 hrn hn1 hh0 hh1 x0 x1
            have hh0 := b0 _ (HB7.out.trans (HBD.out.mono HB7.out.size))
            have x0 := y0 _ (HB7.out.trans (HBD.out.mono HB7.out.size))
            have HXPD := Lib.hid (HXP.out.below HBD.out HXP.out.lt)
            by_cases h5 : m0 = 5
            · have h55 : ((m0 : Int) == 5) = true := by simp; omega
              have HP2 := Lib.hid (HPH.out h5)
              go_wp2_with fail
              refine (HKH.out _ (HB7.out.trans (HBD.out.mono HB7.out.size))).mono ?_
              rintro e w9 ⟨ah, ch, rfl, hs9, hb9⟩
              have HXP9 := Lib.hid (HXPD.out.below hb9 HXPD.out.lt)
              have f0 := HXP9.out.free 0
              have p7 := HXP9.out.c0 0 _ rfl
              have HSL9 := Lib.hid hs9
              have HBC := Lib.hid ((HBD.out.trans (hb9.mono HBD.out.size)))
              clear hs9 hb9 hh0
              go_wp2_with fail
              go_meet
              exact Lib.hid (by have hs := HSL9.out; rw [HP2.out] at hs ⊢; exact KpR.stored HB67.out HBC.out hs HGX.out.bare HXP9.out (Nat.le_refl _))
            · have h55 : ((m0 : Int) == 5) = false := by simp; omega
              have HP2 := Lib.hid (HPD.out h5)
              go_wp2_with fail
              refine (HKD.out _ (HB7.out.trans (HBD.out.mono HB7.out.size))).mono ?_
              rintro e w9 ⟨ah, ch, rfl, hs9, hb9⟩
              have HXP9 := Lib.hid (HXPD.out.below hb9 HXPD.out.lt)
              have f0 := HXP9.out.free 0
              have p7 := HXP9.out.c0 0 _ rfl
              have HSL9 := Lib.hid hs9
              have HBC := Lib.hid ((HBD.out.trans (hb9.mono HBD.out.size)))
              clear hs9 hb9 hh0
              go_wp2_with fail
              go_meet
              exact Lib.hid (by have hs := HSL9.out; rw [HP2.out] at hs ⊢; exact KpR.stored HB67.out HBC.out hs HGX.out.bare HXP9.out (Nat.le_refl _))
          case rest =>
            clear b0 b1 y0 y1 y2 y3 hh0 hh1 x0 x1
            obtain ⟨ap, cp, hXp, hSp, hBp⟩ := hcut.out
            clear hcut
            have p7 := hXp.c0 0 _ rfl
            have r1 := (HX6.out.below hBp HX6.out.lt).c0 1 _ rfl
            have HSp := Lib.hid hSp
            have HSD := Lib.hid (g_sound HGX.out (by omega) hSp (HI6.out.below hBp))
            have HBp := Lib.hid hBp
            have HXp := Lib.hid hXp
            clear hXp hSp hBp
            go_wp2_with fail
            refine HSD.out.mono ?_
            rintro e w11 ⟨rfl, hb11⟩
            have HB11 : Hid (Below wr.heap.size wr w11) := Lib.hid (HB6.out.trans ((HBp.out.trans (hb11.mono HBp.out.size)).mono HB6.out.size))
            have p7 := (HXp.out.below hb11 HXp.out.lt).c0 0 _ rfl
            have r1 := (HX6.out.below (HBp.out.trans (hb11.mono HBp.out.size)) HX6.out.lt).c0 1 _ rfl
            have HBX := Lib.hid (HBL.out.below HB11.out HBL.out.lt)
            have g0 := HBX.out.c0 0 _ rfl
            have g1 := HBX.out.c0 1 _ rfl
            have f0 := HBX.out.free 0
            have f1 := HBX.out.free 1
            have HS11 := Lib.hid (HSp.out.below hb11)
            have HI11 := Lib.hid (HI6.out.below (HBp.out.trans (hb11.mono HBp.out.size)))
            clear hb11 HSD
            go_wp2
            go_roundw
            case rel =>
              have hbut := (ButP.setCell w1.heap.size 0 (.slice ap P2.length cp) w11).trans (ButP.setCell w1.heap.size 1 (.slice a3 R2.length c3) _)
              refine ⟨k + 1, ap, a3, P2.length, cp, R2.length, c3, by omega, by omega, by go_num, Lib.hid ⟨(HBX.out.setCell 0 _).setCell 1 _, ?_, ?_, ((HBE.out.trans (HB11.out.mono HBE.out.size)).setCell (p := ⟨w1.heap.size, 0, none⟩) (Nat.le_refl _) _).setCell (p := ⟨w1.heap.size, 1, none⟩) (Nat.le_refl _) _⟩⟩
              · rw [HST.out, ← HP2.out]
                exact slots_butS HS11.out HGX.out.bare (onlyS2 HBX.out) hbut
              · rw [HST.out, ← HR2.out]
                exact ints_butS HI11.out (onlyS2 HBX.out) hbut
            case measure => simp [intOf]; omega
    · have HB := Lib.hid HK.out.bel
      clear HK
      by_cases hk : k < l.length
      · have hlz : (k : Int) < (l.length : Int) := by omega
        have hnz2 : (16 : Int) ≤ (k : Int) := by omega
        clear hact
        go_wp2
        go_ret
        exact ⟨rfl, HG.out.trans (HB.out.mono HG.out.size)⟩
      · have hlz : (l.length : Int) ≤ (k : Int) := by omega
        clear hact
        go_wp2
        go_ret
        exact ⟨rfl, HG.out.trans (HB.out.mono HG.out.size)⟩

end Go.Proofs.Ytlgangcldlphnaa
