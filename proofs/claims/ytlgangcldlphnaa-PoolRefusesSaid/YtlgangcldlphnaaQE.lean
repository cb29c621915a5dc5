/-
  Walks: the law PoolRefuses.
-/
import Derived.Test.YtlgangcldlphnaaQD
namespace Go.Proofs.Ytlgangcldlphnaa
open Go.RowKit Go.Sort
set_option linter.unusedVariables false
set_option maxRecDepth 100000

theorem field_id (a : Option Addr) (n c : Nat) (i e : Int) (w : World) : (Instr.field 44 (.agg #[.slice a n c, .int .i64 i, .int .i64 e]) 1).run Try.prog w = .ok (.int .i64 i) w := by kernel_rfl
theorem field_er (a : Option Addr) (n c : Nat) (i e : Int) (w : World) : (Instr.field 44 (.agg #[.slice a n c, .int .i64 i, .int .i64 e]) 2).run Try.prog w = .ok (.int .i64 e) w := by kernel_rfl
set_option maxHeartbeats 16000000 in
theorem poolRefuses_walk (w : World) (v0 : Value) (l : List R4) (r0 : IsRaws w v0 l) (v1 : Value) (i : Int) (r1 : v1 = .int .i16 i ∧ -32768 ≤ i ∧ i < 32768) (v2 : Value) (b : Bool) (r2 : v2 = .bool b) :
    Calls Try.prog 10 #[v0, v1, v2] w fun e w' => e = .returned (.bool true) ∧ Below w.heap.size w w' := by
  have mixed := mixedA
  obtain ⟨rfl, hi1, hi2⟩ := r1
  subst r2
  have HR0 := Lib.hid r0
  obtain ⟨-, ra, rc, rfl, -⟩ := r0
  go_enter Try.func10, Try.ntmps10
  go_wp2_with fail
  refine (lsan_w _).mono ?_
  rintro e w1 ⟨rfl, hb⟩
  have HG := Lib.hid hb
  clear hb
  go_wp2_with fail
  refine (play_w (.slice ra l.length rc) l 16 w1 (HR0.out.below HG.out) (by decide)).mono ?_
  rintro e w2 ⟨v', u', rfl, hs, hu, hb⟩
  obtain ⟨a0, c0, rfl, hpl, hpc, hpm⟩ := hs.slice
  obtain ⟨a1, c1, rfl, -⟩ := hu.slice
  have HGD : Hid (Good (playX (l.take 16)).1 (playX (l.take 16)).2 16) := Lib.hid ((good_play (l.take 16) (by rw [List.length_take]; omega)).mono (by rw [List.length_take]; omega))
  have HSP0 := Lib.hid hs
  replace HG := Lib.hid (HG.out.trans (hb.mono HG.out.size))
  clear hs hu hb HR0
  generalize (playX (l.take 16)).1 = P at *
  generalize (playX (l.take 16)).2 = R at *
  have hpn : P.length ≤ 16 := HGD.out.plen
  have HMID := Lib.hid HGD.out.mid
  have HBARE := Lib.hid HGD.out.bare
  have hwi : IntKind.i64.wrap i = i := IntWalk.i64_in _ (by omega)
  have HOB := Lib.hid (below_box (w := w2) (.cells #[.slice a0 P.length c0, .slice a1 R.length c1] 32))
  have HUS : Hid (∀ q, usedB P i = q → Calls Try.prog 34 #[poolV (.slice a0 P.length c0), .int .i64 i] (w2.alloc (.cells #[.slice a0 P.length c0, .slice a1 R.length c1] 32)) fun e w' => e = .returned (.bool q) ∧ Below (w2.alloc (.cells #[.slice a0 P.length c0, .slice a1 R.length c1] 32)).heap.size (w2.alloc (.cells #[.slice a0 P.length c0, .slice a1 R.length c1] 32)) w') := Lib.hid (fun q h => by rw [← h]; exact rused_w _ P i _ (HSP0.out.below HOB.out))
  go_wp2_with fail
  obtain ⟨q, hq⟩ : ∃ q, usedB P i = q := ⟨_, rfl⟩
  refine (HUS.out q hq).mono ?_
  rintro e w3 ⟨rfl, hb⟩
  have HXH : Hid (Blk w3 w2.heap.size 32 #[.slice a0 P.length c0, .slice a1 R.length c1]) := Lib.hid (Blk.below (Blk.new _ _ _) hb (by simp))
  have HSP := Lib.hid ((HSP0.out.below HOB.out).below hb)
  replace HG := Lib.hid ((HG.out.trans (HOB.out.mono HG.out.size)).trans (hb.mono (by have := HG.out.size; simp; omega)))
  clear hb HUS HOB HSP0
  have xH0 := HXH.out.c0 0 _ rfl
  cases q
  · have HNU := Lib.hid hq
    clear hq
    go_upto_region 5 with fail
    clear xH0
    generalize i = k2 at *
    have xH0 := HXH.out.c0 0 _ rfl
    go_wp2_with fail
    refine (n_add HNU.out HMID.out (HSP.out.below (below_box (.cells #[.int .i64 k2] 3))) (node_lit (isInts_lit [k2] (by first | rfl | simp) (by simp) (by simp)))).mono ?_
    rintro e w4 ⟨G_a, G_c, rfl, hs, hb⟩
    clear xH0
    have hz := (keepP (Below.refl w3.heap.size w3) (.cells #[.int .i64 k2] 3)).trans (hb.mono (Below.size (keepP (Below.refl w3.heap.size w3) (.cells #[.int .i64 k2] 3))))
    replace HXH := Lib.hid (HXH.out.below hz HXH.out.lt)
    replace HSP := Lib.hid (HSP.out.below hz)
    replace HG := Lib.hid (HG.out.trans (hz.mono HG.out.size))
    have HSG := Lib.hid hs
    clear hz hb hs
    have xH0 := (HXH.out.alloc (.cells #[.slice G_a P.length G_c, .int .i64 0, .int .i64 110] 44)).c0 0 _ rfl
    go_wp2_with fail
    refine (c_get (no_get HNU.out) (HSP.out.below (below_box (.cells #[.slice G_a P.length G_c, .int .i64 0, .int .i64 110] 44)))).mono ?_
    rintro e w5 ⟨n1, n1n, n1c, n2, n2n, n2c, n3, n3n, n3c, n4, n4n, n4c, n5, n5n, n5c, rfl, hb⟩
    clear xH0
    have hz := (keepP (Below.refl w4.heap.size w4) (.cells #[.slice G_a P.length G_c, .int .i64 0, .int .i64 110] 44)).trans (hb.mono (Below.size (keepP (Below.refl w4.heap.size w4) (.cells #[.slice G_a P.length G_c, .int .i64 0, .int .i64 110] 44))))
    replace HXH := Lib.hid (HXH.out.below hz HXH.out.lt)
    have HXG : Hid (Blk w5 w4.heap.size 44 #[.slice G_a P.length G_c, .int .i64 0, .int .i64 110]) := Lib.hid (Blk.below (by first | exact (Blk.new w4 44 #[.slice G_a P.length G_c, .int .i64 0, .int .i64 110]) | simpa using (Blk.new w4 44 #[.slice G_a P.length G_c, .int .i64 0, .int .i64 110])) hb (by first | omega | (simp; done) | (simp; omega)))
    replace HSP := Lib.hid (HSP.out.below hz)
    replace HSG := Lib.hid (HSG.out.below hz)
    replace HG := Lib.hid (HG.out.trans (hz.mono HG.out.size))
    clear hz hb
    have xH0 := (HXH.out.alloc (.cells #[.slice n1 n1n n1c, .slice n2 n2n n2c, .slice n3 n3n n3c, .slice n4 n4n n4c, .slice n5 n5n n5c] 39)).c0 0 _ rfl
    go_wp2_with fail
    refine (n_hold HNU.out HMID.out (HSP.out.below (below_box (.cells #[.slice n1 n1n n1c, .slice n2 n2n n2c, .slice n3 n3n n3c, .slice n4 n4n n4c, .slice n5 n5n n5c] 39)))).mono ?_
    rintro e w6 ⟨C_a, C_c, rfl, hs, hb⟩
    clear xH0
    have hz := (keepP (Below.refl w5.heap.size w5) (.cells #[.slice n1 n1n n1c, .slice n2 n2n n2c, .slice n3 n3n n3c, .slice n4 n4n n4c, .slice n5 n5n n5c] 39)).trans (hb.mono (Below.size (keepP (Below.refl w5.heap.size w5) (.cells #[.slice n1 n1n n1c, .slice n2 n2n n2c, .slice n3 n3n n3c, .slice n4 n4n n4c, .slice n5 n5n n5c] 39))))
    replace HXH := Lib.hid (HXH.out.below hz HXH.out.lt)
    replace HXG := Lib.hid (HXG.out.below hz HXG.out.lt)
    have HXN : Hid (Blk w6 w5.heap.size 39 #[.slice n1 n1n n1c, .slice n2 n2n n2c, .slice n3 n3n n3c, .slice n4 n4n n4c, .slice n5 n5n n5c]) := Lib.hid (Blk.below (by first | exact (Blk.new w5 39 #[.slice n1 n1n n1c, .slice n2 n2n n2c, .slice n3 n3n n3c, .slice n4 n4n n4c, .slice n5 n5n n5c]) | simpa using (Blk.new w5 39 #[.slice n1 n1n n1c, .slice n2 n2n n2c, .slice n3 n3n n3c, .slice n4 n4n n4c, .slice n5 n5n n5c])) hb (by first | omega | (simp; done) | (simp; omega)))
    replace HSP := Lib.hid (HSP.out.below hz)
    replace HSG := Lib.hid (HSG.out.below hz)
    replace HG := Lib.hid (HG.out.trans (hz.mono HG.out.size))
    have HSC := Lib.hid hs
    clear hz hb hs
    have xH0 := (HXH.out.alloc (.cells #[.slice C_a P.length C_c] 29)).c0 0 _ rfl
    go_wp2_with fail
    refine (n_drop HNU.out HMID.out (HSP.out.below (below_box (.cells #[.slice C_a P.length C_c] 29)))).mono ?_
    rintro e w7 ⟨D_a, D_c, rfl, hs, hb⟩
    clear xH0
    have hz := (keepP (Below.refl w6.heap.size w6) (.cells #[.slice C_a P.length C_c] 29)).trans (hb.mono (Below.size (keepP (Below.refl w6.heap.size w6) (.cells #[.slice C_a P.length C_c] 29))))
    replace HXH := Lib.hid (HXH.out.below hz HXH.out.lt)
    replace HXG := Lib.hid (HXG.out.below hz HXG.out.lt)
    clear HXN
    have HXC : Hid (Blk w7 w6.heap.size 29 #[.slice C_a P.length C_c]) := Lib.hid (Blk.below (by first | exact (Blk.new w6 29 #[.slice C_a P.length C_c]) | simpa using (Blk.new w6 29 #[.slice C_a P.length C_c])) hb (by first | omega | (simp; done) | (simp; omega)))
    replace HSP := Lib.hid (HSP.out.below hz)
    replace HSG := Lib.hid (HSG.out.below hz)
    replace HSC := Lib.hid (HSC.out.below hz)
    replace HG := Lib.hid (HG.out.trans (hz.mono HG.out.size))
    have HSD := Lib.hid hs
    clear hz hb hs
    have xG0 := (HXG.out.alloc (.cells #[.slice D_a P.length D_c] 29)).c0 0 _ rfl
    have xG1 := (HXG.out.alloc (.cells #[.slice D_a P.length D_c] 29)).c0 1 _ rfl
    have xG2 := (HXG.out.alloc (.cells #[.slice D_a P.length D_c] 29)).c0 2 _ rfl
    have xH0 := (HXH.out.alloc (.cells #[.slice D_a P.length D_c] 29)).c0 0 _ rfl
    go_wp2_with fail
    refine (same_w _ _ P _ (HSG.out.below (below_box (.cells #[.slice D_a P.length D_c] 29))) (HSP.out.below (below_box (.cells #[.slice D_a P.length D_c] 29))) HBARE.out).mono ?_
    rintro e w8 ⟨rfl, hb⟩
    clear xG0 xG1 xG2 xH0
    have hz := (keepP (Below.refl w7.heap.size w7) (.cells #[.slice D_a P.length D_c] 29)).trans (hb.mono (Below.size (keepP (Below.refl w7.heap.size w7) (.cells #[.slice D_a P.length D_c] 29))))
    replace HXH := Lib.hid (HXH.out.below hz HXH.out.lt)
    replace HXG := Lib.hid (HXG.out.below hz HXG.out.lt)
    replace HXC := Lib.hid (HXC.out.below hz HXC.out.lt)
    have HXD : Hid (Blk w8 w7.heap.size 29 #[.slice D_a P.length D_c]) := Lib.hid (Blk.below (by first | exact (Blk.new w7 29 #[.slice D_a P.length D_c]) | simpa using (Blk.new w7 29 #[.slice D_a P.length D_c])) hb (by first | omega | (simp; done) | (simp; omega)))
    replace HSP := Lib.hid (HSP.out.below hz)
    replace HSG := Lib.hid (HSG.out.below hz)
    replace HSC := Lib.hid (HSC.out.below hz)
    replace HSD := Lib.hid (HSD.out.below hz)
    replace HG := Lib.hid (HG.out.trans (hz.mono HG.out.size))
    clear hz hb
    have xC0 := HXC.out.c0 0 _ rfl
    have xH0 := HXH.out.c0 0 _ rfl
    go_wp2_with fail
    refine (same_w _ _ P _ HSC.out HSP.out HBARE.out).mono ?_
    rintro e w9 ⟨rfl, hb⟩
    clear xC0 xH0
    have hz := (Below.refl w8.heap.size w8).trans (hb.mono (Below.size (Below.refl w8.heap.size w8)))
    replace HXH := Lib.hid (HXH.out.below hz HXH.out.lt)
    clear HXG
    replace HXC := Lib.hid (HXC.out.below hz HXC.out.lt)
    replace HXD := Lib.hid (HXD.out.below hz HXD.out.lt)
    replace HSP := Lib.hid (HSP.out.below hz)
    clear HSG
    replace HSC := Lib.hid (HSC.out.below hz)
    replace HSD := Lib.hid (HSD.out.below hz)
    replace HG := Lib.hid (HG.out.trans (hz.mono HG.out.size))
    clear hz hb
    have xD0 := HXD.out.c0 0 _ rfl
    have xH0 := HXH.out.c0 0 _ rfl
    go_wp2_with fail
    refine (same_w _ _ P _ HSD.out HSP.out HBARE.out).mono ?_
    rintro e w10 ⟨rfl, hb⟩
    clear xD0 xH0
    have hz := (Below.refl w9.heap.size w9).trans (hb.mono (Below.size (Below.refl w9.heap.size w9)))
    replace HXH := Lib.hid (HXH.out.below hz HXH.out.lt)
    clear HXC
    replace HXD := Lib.hid (HXD.out.below hz HXD.out.lt)
    replace HSP := Lib.hid (HSP.out.below hz)
    clear HSC
    replace HSD := Lib.hid (HSD.out.below hz)
    replace HG := Lib.hid (HG.out.trans (hz.mono HG.out.size))
    clear hz hb
    clear HXH HXD HSP HSD HNU HMID HBARE
    cases b
    · go_wp2
      go_ret
      exact ⟨rfl, HG.out⟩
    · obtain ⟨W0, hW0⟩ : ∃ W0, W0 = w10.alloc (.cells #[.slice none 0 0] 29) := ⟨_, rfl⟩
      have HXQ : Hid (Blk W0 w10.heap.size 29 #[.slice none 0 0]) := Lib.hid (by rw [hW0]; exact Blk.new _ _ _)
      have HB0 : Hid (Below w10.heap.size w10 W0) := Lib.hid (by rw [hW0]; exact keepP (Below.refl _ _) _)
      have HW0 := Lib.hid hW0
      clear hW0
      go_wp2_with fail
      rw [← HW0.out]
      go_loopw [18] (fun i wr => ∃ (n : Nat) (v : Value), n ≤ 4096 ∧ i = .int .i64 n ∧ Hid (OwnF w10 wr W0.heap.size v (qF n)) ∧ Hid (Blk wr w10.heap.size 29 #[v]) ∧ Hid (Below w10.heap.size W0 wr)) (fun i _ => 4096 - (intOf i).toNat)
      case atStart => exact ⟨0, _, Nat.zero_le _, rfl, Lib.hid ⟨[], allSl_nil _, World.ownsRow_nil _ _ _ _⟩, HXQ, Lib.hid (Below.refl _ _)⟩
      case round =>
        obtain ⟨n, v, hn, rfl, HO, HX, HB⟩ := hrel
        obtain ⟨va, vc, hv, hvl, hvm, hvg⟩ := HO.out.form
        have HL := Lib.hid (qF_len n)
        rw [HL.out] at hv hvl hvg
        subst hv
        have x0 := HX.out.c0 0 _ rfl
        have f0 := HX.out.free 0
        by_cases hlt : n < 4096
        · have hltz : (n : Int) < 4096 := by omega
          have HXN : Hid ((Value.slice va n vc).ownBlock ≠ some w10.heap.size) := Lib.hid (fun e => by obtain ⟨L, _, h4⟩ := HO.out; have h5 := (h4.lt _ e).1; have h6 := HXQ.out.lt; omega)
          have HZ : Hid (W0.heap.size ≤ wr.heap.size) := Lib.hid HB.out.size
          clear hvg hvm hvl
          go_wp2_with (at_builtin; refine append_oneG rfl _ _ rfl W0.heap.size _ (qF n) rfl HO.out wr.heap.size rfl rfl (by have := HL.out; omega) HZ.out ?_; intro v5 w5 Q hQ hown hgr; have HQE := Lib.hid hQ; clear hQ; have hx5 := grown_blk hgr (HX.out.alloc _) HXN.out; have HX5 := Lib.hid hx5; have HGR := Lib.hid hgr; obtain ⟨a5, c5, rfl, -⟩ := hown.form; have HO5 := Lib.hid hown; have xc5 := hx5.c0 0 _ rfl; have xf5 := hx5.free 0; clear hown hgr hx5)
          go_roundw
          case rel =>
            have hqe : Q = qF (n + 1) := by rw [HQE.out, qF_snoc]
            have hne : (Value.slice a5 Q.length c5).ownBlock ≠ some w10.heap.size := fun e => by obtain ⟨L, _, h4⟩ := HO5.out; have h5 := (h4.lt _ e).1; have h6 := HXQ.out.lt; omega
            refine ⟨n + 1, .slice a5 Q.length c5, by omega, by go_num, ?_, Lib.hid (HX5.out.setCell 0 _), Lib.hid (((HB.out.trans (((below_box _).mono (by have := HB0.out.size; have := HZ.out; omega)))).grown HGR.out (by have := HB0.out.size; have := HZ.out; simp; omega) (fun q hq => by obtain ⟨L, _, h4⟩ := HO.out; have h5 := (h4.lt q hq).1; have := HB0.out.size; omega)).setCell (Nat.le_refl _) _)⟩
            rw [← hqe]
            exact Lib.hid (HO5.out.setOther _ _ _ hne)
          case measure => simp [intOf]; omega
        · obtain rfl : n = 4096 := by omega
          have HSQ := Lib.hid (HO.out.slF.slots (HB0.out.trans HB.out))
          have HGr : Hid (Below w.heap.size w wr) := Lib.hid (HG.out.trans ((HB0.out.trans HB.out).mono HG.out.size))
          have HXQ' := HX
          clear HXQ HB0 HW0 HG HO HB HX
          obtain ⟨w20, rfl⟩ : ∃ w20, w20 = wr := ⟨_, rfl⟩
          have HXQ := HXQ'
          have HG := HGr
          clear HXQ' HGr x0 f0
          have hf1 := field_id
          have hf2 := field_er
          have xQ0 := HXQ.out.c0 0 _ rfl
          go_wp2_with fail
          refine (f_drop HSQ.out).mono ?_
          rintro e w21 ⟨R_a, R_c, rfl, hs, hb⟩
          clear xQ0
          have hz := (Below.refl w20.heap.size w20).trans (hb.mono (Below.size (Below.refl w20.heap.size w20)))
          replace HXQ := Lib.hid (HXQ.out.below hz HXQ.out.lt)
          replace HSQ := Lib.hid (HSQ.out.below hz)
          replace HG := Lib.hid (HG.out.trans (hz.mono HG.out.size))
          have HSR := Lib.hid hs
          clear hz hb hs
          have xQ0 := (HXQ.out.alloc (.cells #[.slice R_a qH.length R_c] 29)).c0 0 _ rfl
          go_wp2_with fail
          refine (f_add (HSQ.out.below (below_box (.cells #[.slice R_a qH.length R_c] 29))) (node_lit (IsInts.nil _))).mono ?_
          rintro e w22 ⟨T_a, T_c, rfl, -, hb⟩
          clear xQ0
          have hz := (keepP (Below.refl w21.heap.size w21) (.cells #[.slice R_a qH.length R_c] 29)).trans (hb.mono (Below.size (keepP (Below.refl w21.heap.size w21) (.cells #[.slice R_a qH.length R_c] 29))))
          replace HXQ := Lib.hid (HXQ.out.below hz HXQ.out.lt)
          have HXR : Hid (Blk w22 w21.heap.size 29 #[.slice R_a qH.length R_c]) := Lib.hid (Blk.below (by first | exact (Blk.new w21 29 #[.slice R_a qH.length R_c]) | simpa using (Blk.new w21 29 #[.slice R_a qH.length R_c])) hb (by first | omega | (simp; done) | (simp; omega)))
          replace HSQ := Lib.hid (HSQ.out.below hz)
          replace HSR := Lib.hid (HSR.out.below hz)
          replace HG := Lib.hid (HG.out.trans (hz.mono HG.out.size))
          clear hz hb
          have xR0 := HXR.out.c0 0 _ rfl
          go_wp2_with fail
          refine (h_add HSR.out (node_lit (IsInts.nil _))).mono ?_
          rintro e w23 ⟨u1, u2, u3, u4, rfl, hb⟩
          clear xR0
          have hz := (Below.refl w22.heap.size w22).trans (hb.mono (Below.size (Below.refl w22.heap.size w22)))
          replace HXQ := Lib.hid (HXQ.out.below hz HXQ.out.lt)
          replace HXR := Lib.hid (HXR.out.below hz HXR.out.lt)
          replace HSQ := Lib.hid (HSQ.out.below hz)
          replace HSR := Lib.hid (HSR.out.below hz)
          replace HG := Lib.hid (HG.out.trans (hz.mono HG.out.size))
          clear hz hb
          have xQ0 := HXQ.out.c0 0 _ rfl
          go_wp2_with fail
          refine (n_add full_far mid_full (HSQ.out.below (below_box (.cells #[.int .i64 4096] 3))) (node_lit (isInts_lit [4096] (by first | rfl | simp) (by simp) (by simp)))).mono ?_
          rintro e w24 ⟨S_a, S_c, rfl, -, hb⟩
          clear xQ0
          have hz := (keepP (Below.refl w23.heap.size w23) (.cells #[.int .i64 4096] 3)).trans (hb.mono (Below.size (keepP (Below.refl w23.heap.size w23) (.cells #[.int .i64 4096] 3))))
          replace HXQ := Lib.hid (HXQ.out.below hz HXQ.out.lt)
          clear HXR
          replace HSQ := Lib.hid (HSQ.out.below hz)
          clear HSR
          replace HG := Lib.hid (HG.out.trans (hz.mono HG.out.size))
          clear hz hb
          go_wp2
          go_ret
          exact ⟨rfl, HG.out⟩
  · have hi0 := (usedB_lt hq).1
    have hwk : IntKind.i64.wrap ((P.length : Int) + i) = (P.length : Int) + i := IntWalk.i64_in _ (by omega)
    have HNU := Lib.hid (far_unused P hi0)
    clear hq
    go_upto_region 5 with fail
    clear xH0 hwk
    generalize (P.length : Int) + i = k2 at *
    have xH0 := HXH.out.c0 0 _ rfl
    go_wp2_with fail
    refine (n_add HNU.out HMID.out (HSP.out.below (below_box (.cells #[.int .i64 k2] 3))) (node_lit (isInts_lit [k2] (by first | rfl | simp) (by simp) (by simp)))).mono ?_
    rintro e w4 ⟨G_a, G_c, rfl, hs, hb⟩
    clear xH0
    have hz := (keepP (Below.refl w3.heap.size w3) (.cells #[.int .i64 k2] 3)).trans (hb.mono (Below.size (keepP (Below.refl w3.heap.size w3) (.cells #[.int .i64 k2] 3))))
    replace HXH := Lib.hid (HXH.out.below hz HXH.out.lt)
    replace HSP := Lib.hid (HSP.out.below hz)
    replace HG := Lib.hid (HG.out.trans (hz.mono HG.out.size))
    have HSG := Lib.hid hs
    clear hz hb hs
    have xH0 := (HXH.out.alloc (.cells #[.slice G_a P.length G_c, .int .i64 0, .int .i64 110] 44)).c0 0 _ rfl
    go_wp2_with fail
    refine (c_get (no_get HNU.out) (HSP.out.below (below_box (.cells #[.slice G_a P.length G_c, .int .i64 0, .int .i64 110] 44)))).mono ?_
    rintro e w5 ⟨n1, n1n, n1c, n2, n2n, n2c, n3, n3n, n3c, n4, n4n, n4c, n5, n5n, n5c, rfl, hb⟩
    clear xH0
    have hz := (keepP (Below.refl w4.heap.size w4) (.cells #[.slice G_a P.length G_c, .int .i64 0, .int .i64 110] 44)).trans (hb.mono (Below.size (keepP (Below.refl w4.heap.size w4) (.cells #[.slice G_a P.length G_c, .int .i64 0, .int .i64 110] 44))))
    replace HXH := Lib.hid (HXH.out.below hz HXH.out.lt)
    have HXG : Hid (Blk w5 w4.heap.size 44 #[.slice G_a P.length G_c, .int .i64 0, .int .i64 110]) := Lib.hid (Blk.below (by first | exact (Blk.new w4 44 #[.slice G_a P.length G_c, .int .i64 0, .int .i64 110]) | simpa using (Blk.new w4 44 #[.slice G_a P.length G_c, .int .i64 0, .int .i64 110])) hb (by first | omega | (simp; done) | (simp; omega)))
    replace HSP := Lib.hid (HSP.out.below hz)
    replace HSG := Lib.hid (HSG.out.below hz)
    replace HG := Lib.hid (HG.out.trans (hz.mono HG.out.size))
    clear hz hb
    have xH0 := (HXH.out.alloc (.cells #[.slice n1 n1n n1c, .slice n2 n2n n2c, .slice n3 n3n n3c, .slice n4 n4n n4c, .slice n5 n5n n5c] 39)).c0 0 _ rfl
    go_wp2_with fail
    refine (n_hold HNU.out HMID.out (HSP.out.below (below_box (.cells #[.slice n1 n1n n1c, .slice n2 n2n n2c, .slice n3 n3n n3c, .slice n4 n4n n4c, .slice n5 n5n n5c] 39)))).mono ?_
    rintro e w6 ⟨C_a, C_c, rfl, hs, hb⟩
    clear xH0
    have hz := (keepP (Below.refl w5.heap.size w5) (.cells #[.slice n1 n1n n1c, .slice n2 n2n n2c, .slice n3 n3n n3c, .slice n4 n4n n4c, .slice n5 n5n n5c] 39)).trans (hb.mono (Below.size (keepP (Below.refl w5.heap.size w5) (.cells #[.slice n1 n1n n1c, .slice n2 n2n n2c, .slice n3 n3n n3c, .slice n4 n4n n4c, .slice n5 n5n n5c] 39))))
    replace HXH := Lib.hid (HXH.out.below hz HXH.out.lt)
    replace HXG := Lib.hid (HXG.out.below hz HXG.out.lt)
    have HXN : Hid (Blk w6 w5.heap.size 39 #[.slice n1 n1n n1c, .slice n2 n2n n2c, .slice n3 n3n n3c, .slice n4 n4n n4c, .slice n5 n5n n5c]) := Lib.hid (Blk.below (by first | exact (Blk.new w5 39 #[.slice n1 n1n n1c, .slice n2 n2n n2c, .slice n3 n3n n3c, .slice n4 n4n n4c, .slice n5 n5n n5c]) | simpa using (Blk.new w5 39 #[.slice n1 n1n n1c, .slice n2 n2n n2c, .slice n3 n3n n3c, .slice n4 n4n n4c, .slice n5 n5n n5c])) hb (by first | omega | (simp; done) | (simp; omega)))
    replace HSP := Lib.hid (HSP.out.below hz)
    replace HSG := Lib.hid (HSG.out.below hz)
    replace HG := Lib.hid (HG.out.trans (hz.mono HG.out.size))
    have HSC := Lib.hid hs
    clear hz hb hs
    have xH0 := (HXH.out.alloc (.cells #[.slice C_a P.length C_c] 29)).c0 0 _ rfl
    go_wp2_with fail
    refine (n_drop HNU.out HMID.out (HSP.out.below (below_box (.cells #[.slice C_a P.length C_c] 29)))).mono ?_
    rintro e w7 ⟨D_a, D_c, rfl, hs, hb⟩
    clear xH0
    have hz := (keepP (Below.refl w6.heap.size w6) (.cells #[.slice C_a P.length C_c] 29)).trans (hb.mono (Below.size (keepP (Below.refl w6.heap.size w6) (.cells #[.slice C_a P.length C_c] 29))))
    replace HXH := Lib.hid (HXH.out.below hz HXH.out.lt)
    replace HXG := Lib.hid (HXG.out.below hz HXG.out.lt)
    clear HXN
    have HXC : Hid (Blk w7 w6.heap.size 29 #[.slice C_a P.length C_c]) := Lib.hid (Blk.below (by first | exact (Blk.new w6 29 #[.slice C_a P.length C_c]) | simpa using (Blk.new w6 29 #[.slice C_a P.length C_c])) hb (by first | omega | (simp; done) | (simp; omega)))
    replace HSP := Lib.hid (HSP.out.below hz)
    replace HSG := Lib.hid (HSG.out.below hz)
    replace HSC := Lib.hid (HSC.out.below hz)
    replace HG := Lib.hid (HG.out.trans (hz.mono HG.out.size))
    have HSD := Lib.hid hs
    clear hz hb hs
    have xG0 := (HXG.out.alloc (.cells #[.slice D_a P.length D_c] 29)).c0 0 _ rfl
    have xG1 := (HXG.out.alloc (.cells #[.slice D_a P.length D_c] 29)).c0 1 _ rfl
    have xG2 := (HXG.out.alloc (.cells #[.slice D_a P.length D_c] 29)).c0 2 _ rfl
    have xH0 := (HXH.out.alloc (.cells #[.slice D_a P.length D_c] 29)).c0 0 _ rfl
    go_wp2_with fail
    refine (same_w _ _ P _ (HSG.out.below (below_box (.cells #[.slice D_a P.length D_c] 29))) (HSP.out.below (below_box (.cells #[.slice D_a P.length D_c] 29))) HBARE.out).mono ?_
    rintro e w8 ⟨rfl, hb⟩
    clear xG0 xG1 xG2 xH0
    have hz := (keepP (Below.refl w7.heap.size w7) (.cells #[.slice D_a P.length D_c] 29)).trans (hb.mono (Below.size (keepP (Below.refl w7.heap.size w7) (.cells #[.slice D_a P.length D_c] 29))))
    replace HXH := Lib.hid (HXH.out.below hz HXH.out.lt)
    replace HXG := Lib.hid (HXG.out.below hz HXG.out.lt)
    replace HXC := Lib.hid (HXC.out.below hz HXC.out.lt)
    have HXD : Hid (Blk w8 w7.heap.size 29 #[.slice D_a P.length D_c]) := Lib.hid (Blk.below (by first | exact (Blk.new w7 29 #[.slice D_a P.length D_c]) | simpa using (Blk.new w7 29 #[.slice D_a P.length D_c])) hb (by first | omega | (simp; done) | (simp; omega)))
    replace HSP := Lib.hid (HSP.out.below hz)
    replace HSG := Lib.hid (HSG.out.below hz)
    replace HSC := Lib.hid (HSC.out.below hz)
    replace HSD := Lib.hid (HSD.out.below hz)
    replace HG := Lib.hid (HG.out.trans (hz.mono HG.out.size))
    clear hz hb
    have xC0 := HXC.out.c0 0 _ rfl
    have xH0 := HXH.out.c0 0 _ rfl
    go_wp2_with fail
    refine (same_w _ _ P _ HSC.out HSP.out HBARE.out).mono ?_
    rintro e w9 ⟨rfl, hb⟩
    clear xC0 xH0
    have hz := (Below.refl w8.heap.size w8).trans (hb.mono (Below.size (Below.refl w8.heap.size w8)))
    replace HXH := Lib.hid (HXH.out.below hz HXH.out.lt)
    clear HXG
    replace HXC := Lib.hid (HXC.out.below hz HXC.out.lt)
    replace HXD := Lib.hid (HXD.out.below hz HXD.out.lt)
    replace HSP := Lib.hid (HSP.out.below hz)
    clear HSG
    replace HSC := Lib.hid (HSC.out.below hz)
    replace HSD := Lib.hid (HSD.out.below hz)
    replace HG := Lib.hid (HG.out.trans (hz.mono HG.out.size))
    clear hz hb
    have xD0 := HXD.out.c0 0 _ rfl
    have xH0 := HXH.out.c0 0 _ rfl
    go_wp2_with fail
    refine (same_w _ _ P _ HSD.out HSP.out HBARE.out).mono ?_
    rintro e w10 ⟨rfl, hb⟩
    clear xD0 xH0
    have hz := (Below.refl w9.heap.size w9).trans (hb.mono (Below.size (Below.refl w9.heap.size w9)))
    replace HXH := Lib.hid (HXH.out.below hz HXH.out.lt)
    clear HXC
    replace HXD := Lib.hid (HXD.out.below hz HXD.out.lt)
    replace HSP := Lib.hid (HSP.out.below hz)
    clear HSC
    replace HSD := Lib.hid (HSD.out.below hz)
    replace HG := Lib.hid (HG.out.trans (hz.mono HG.out.size))
    clear hz hb
    clear HXH HXD HSP HSD HNU HMID HBARE
    cases b
    · go_wp2
      go_ret
      exact ⟨rfl, HG.out⟩
    · obtain ⟨W0, hW0⟩ : ∃ W0, W0 = w10.alloc (.cells #[.slice none 0 0] 29) := ⟨_, rfl⟩
      have HXQ : Hid (Blk W0 w10.heap.size 29 #[.slice none 0 0]) := Lib.hid (by rw [hW0]; exact Blk.new _ _ _)
      have HB0 : Hid (Below w10.heap.size w10 W0) := Lib.hid (by rw [hW0]; exact keepP (Below.refl _ _) _)
      have HW0 := Lib.hid hW0
      clear hW0
      go_wp2_with fail
      rw [← HW0.out]
      go_loopw [18] (fun i wr => ∃ (n : Nat) (v : Value), n ≤ 4096 ∧ i = .int .i64 n ∧ Hid (OwnF w10 wr W0.heap.size v (qF n)) ∧ Hid (Blk wr w10.heap.size 29 #[v]) ∧ Hid (Below w10.heap.size W0 wr)) (fun i _ => 4096 - (intOf i).toNat)
      case atStart => exact ⟨0, _, Nat.zero_le _, rfl, Lib.hid ⟨[], allSl_nil _, World.ownsRow_nil _ _ _ _⟩, HXQ, Lib.hid (Below.refl _ _)⟩
      case round =>
        obtain ⟨n, v, hn, rfl, HO, HX, HB⟩ := hrel
        obtain ⟨va, vc, hv, hvl, hvm, hvg⟩ := HO.out.form
        have HL := Lib.hid (qF_len n)
        rw [HL.out] at hv hvl hvg
        subst hv
        have x0 := HX.out.c0 0 _ rfl
        have f0 := HX.out.free 0
        by_cases hlt : n < 4096
        · have hltz : (n : Int) < 4096 := by omega
          have HXN : Hid ((Value.slice va n vc).ownBlock ≠ some w10.heap.size) := Lib.hid (fun e => by obtain ⟨L, _, h4⟩ := HO.out; have h5 := (h4.lt _ e).1; have h6 := HXQ.out.lt; omega)
          have HZ : Hid (W0.heap.size ≤ wr.heap.size) := Lib.hid HB.out.size
          clear hvg hvm hvl
          go_wp2_with (at_builtin; refine append_oneG rfl _ _ rfl W0.heap.size _ (qF n) rfl HO.out wr.heap.size rfl rfl (by have := HL.out; omega) HZ.out ?_; intro v5 w5 Q hQ hown hgr; have HQE := Lib.hid hQ; clear hQ; have hx5 := grown_blk hgr (HX.out.alloc _) HXN.out; have HX5 := Lib.hid hx5; have HGR := Lib.hid hgr; obtain ⟨a5, c5, rfl, -⟩ := hown.form; have HO5 := Lib.hid hown; have xc5 := hx5.c0 0 _ rfl; have xf5 := hx5.free 0; clear hown hgr hx5)
          go_roundw
          case rel =>
            have hqe : Q = qF (n + 1) := by rw [HQE.out, qF_snoc]
            have hne : (Value.slice a5 Q.length c5).ownBlock ≠ some w10.heap.size := fun e => by obtain ⟨L, _, h4⟩ := HO5.out; have h5 := (h4.lt _ e).1; have h6 := HXQ.out.lt; omega
            refine ⟨n + 1, .slice a5 Q.length c5, by omega, by go_num, ?_, Lib.hid (HX5.out.setCell 0 _), Lib.hid (((HB.out.trans (((below_box _).mono (by have := HB0.out.size; have := HZ.out; omega)))).grown HGR.out (by have := HB0.out.size; have := HZ.out; simp; omega) (fun q hq => by obtain ⟨L, _, h4⟩ := HO.out; have h5 := (h4.lt q hq).1; have := HB0.out.size; omega)).setCell (Nat.le_refl _) _)⟩
            rw [← hqe]
            exact Lib.hid (HO5.out.setOther _ _ _ hne)
          case measure => simp [intOf]; omega
        · obtain rfl : n = 4096 := by omega
          have HSQ := Lib.hid (HO.out.slF.slots (HB0.out.trans HB.out))
          have HGr : Hid (Below w.heap.size w wr) := Lib.hid (HG.out.trans ((HB0.out.trans HB.out).mono HG.out.size))
          have HXQ' := HX
          clear HXQ HB0 HW0 HG HO HB HX
          obtain ⟨w20, rfl⟩ : ∃ w20, w20 = wr := ⟨_, rfl⟩
          have HXQ := HXQ'
          have HG := HGr
          clear HXQ' HGr x0 f0
          have hf1 := field_id
          have hf2 := field_er
          have xQ0 := HXQ.out.c0 0 _ rfl
          go_wp2_with fail
          refine (f_drop HSQ.out).mono ?_
          rintro e w21 ⟨R_a, R_c, rfl, hs, hb⟩
          clear xQ0
          have hz := (Below.refl w20.heap.size w20).trans (hb.mono (Below.size (Below.refl w20.heap.size w20)))
          replace HXQ := Lib.hid (HXQ.out.below hz HXQ.out.lt)
          replace HSQ := Lib.hid (HSQ.out.below hz)
          replace HG := Lib.hid (HG.out.trans (hz.mono HG.out.size))
          have HSR := Lib.hid hs
          clear hz hb hs
          have xQ0 := (HXQ.out.alloc (.cells #[.slice R_a qH.length R_c] 29)).c0 0 _ rfl
          go_wp2_with fail
          refine (f_add (HSQ.out.below (below_box (.cells #[.slice R_a qH.length R_c] 29))) (node_lit (IsInts.nil _))).mono ?_
          rintro e w22 ⟨T_a, T_c, rfl, -, hb⟩
          clear xQ0
          have hz := (keepP (Below.refl w21.heap.size w21) (.cells #[.slice R_a qH.length R_c] 29)).trans (hb.mono (Below.size (keepP (Below.refl w21.heap.size w21) (.cells #[.slice R_a qH.length R_c] 29))))
          replace HXQ := Lib.hid (HXQ.out.below hz HXQ.out.lt)
          have HXR : Hid (Blk w22 w21.heap.size 29 #[.slice R_a qH.length R_c]) := Lib.hid (Blk.below (by first | exact (Blk.new w21 29 #[.slice R_a qH.length R_c]) | simpa using (Blk.new w21 29 #[.slice R_a qH.length R_c])) hb (by first | omega | (simp; done) | (simp; omega)))
          replace HSQ := Lib.hid (HSQ.out.below hz)
          replace HSR := Lib.hid (HSR.out.below hz)
          replace HG := Lib.hid (HG.out.trans (hz.mono HG.out.size))
          clear hz hb
          have xR0 := HXR.out.c0 0 _ rfl
          go_wp2_with fail
          refine (h_add HSR.out (node_lit (IsInts.nil _))).mono ?_
          rintro e w23 ⟨u1, u2, u3, u4, rfl, hb⟩
          clear xR0
          have hz := (Below.refl w22.heap.size w22).trans (hb.mono (Below.size (Below.refl w22.heap.size w22)))
          replace HXQ := Lib.hid (HXQ.out.below hz HXQ.out.lt)
          replace HXR := Lib.hid (HXR.out.below hz HXR.out.lt)
          replace HSQ := Lib.hid (HSQ.out.below hz)
          replace HSR := Lib.hid (HSR.out.below hz)
          replace HG := Lib.hid (HG.out.trans (hz.mono HG.out.size))
          clear hz hb
          have xQ0 := HXQ.out.c0 0 _ rfl
          go_wp2_with fail
          refine (n_add full_far mid_full (HSQ.out.below (below_box (.cells #[.int .i64 4096] 3))) (node_lit (isInts_lit [4096] (by first | rfl | simp) (by simp) (by simp)))).mono ?_
          rintro e w24 ⟨S_a, S_c, rfl, -, hb⟩
          clear xQ0
          have hz := (keepP (Below.refl w23.heap.size w23) (.cells #[.int .i64 4096] 3)).trans (hb.mono (Below.size (keepP (Below.refl w23.heap.size w23) (.cells #[.int .i64 4096] 3))))
          replace HXQ := Lib.hid (HXQ.out.below hz HXQ.out.lt)
          clear HXR
          replace HSQ := Lib.hid (HSQ.out.below hz)
          clear HSR
          replace HG := Lib.hid (HG.out.trans (hz.mono HG.out.size))
          clear hz hb
          go_wp2
          go_ret
          exact ⟨rfl, HG.out⟩
end Go.Proofs.Ytlgangcldlphnaa
