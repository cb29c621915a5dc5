/-
  The walk of the law FoldMatchesReference.
-/
import Derived.Test.YtpppkjcbheooeaaGreatGJ
import Derived.Test.YtpppkjcbheooeaaGreatGH
import Derived.Test.YtpppkjcbheooeaaGreatGP
namespace Go.Proofs.YtpppkjcbheooeaaGreat
open Go.RowKit Go.Sort
set_option linter.unusedVariables false

theorem sx_rlive {w wx : World} {L : List (Value × List Pr)} {M : List (Value × List Ms)} {D : List (Value × List Sp)} (h : Sx w L M D wx) {v u : Value} (ms : List Ms) (d : List Sp) (R : List Ms) (E : List Sp) (hR : R = (liveS ms d).1) (hE : E = (liveS ms d).2) (hv : (v, ms) ∈ M) (hu : IsSpans wx u d) (hz : ∀ m ∈ ms, Ok m ∧ OneToSix m) (hl : d.length + 4 * ms.length ≤ 100) :
    Calls Tryz.prog 24 #[v, u] wx fun e w' => ∃ p c q k, e = .returned (.agg #[.slice p R.length c, .slice q E.length k]) ∧ Sx w L ((.slice p R.length c, R) :: M) ((.slice q E.length k, E) :: D) w' := by
  subst hR hE
  refine (rlive_any v u ms d wx (h.m _ hv) hu hz hl).mono fun e w' ⟨p, c, q, k, he, h1, h2, hb⟩ => ?_
  exact ⟨_, _, _, _, he, ((h.below hb).addM h1).addS h2⟩
theorem sx_rreduce {w wx : World} {L : List (Value × List Pr)} {M : List (Value × List Ms)} {D : List (Value × List Sp)} (h : Sx w L M D wx) {v : Value} (ms R : List Ms) (hR : R = reduceS ms) (hv : (v, ms) ∈ M) (hz : ∀ m ∈ ms, Ok m ∧ OneToSix m) (hl : 4 * ms.length ≤ 100) : Calls Tryz.prog 28 #[v] wx (SxM w L M D R) := by
  subst hR
  exact (rreduce_w v ms wx (h.m _ hv) hz hl).mono fun _ _ k => k.sx h
theorem sx_rmerge {w wx : World} {L : List (Value × List Pr)} {M : List (Value × List Ms)} {D : List (Value × List Sp)} (h : Sx w L M D wx) {v u : Value} (a b R : List Ms) (hR : R = mergeM a b) (hv : (v, a) ∈ M) (hu : (u, b) ∈ M) (ha : ∀ m ∈ a, Ok m ∧ OneToSix m) (hb : ∀ m ∈ b, Ok m ∧ OneToSix m) (hl : 4 * (a.length + b.length) ≤ 100) : Calls Tryz.prog 30 #[v, u] wx (SxM w L M D R) := by
  subst hR
  exact (rmerge_w v u a b wx (h.m _ hv) (h.m _ hu) ha hb hl).mono fun _ _ k => k.sx h
theorem Sx.belowP {w wx : World} {L : List (Value × List Pr)} {M : List (Value × List Ms)} {D : List (Value × List Sp)} (h : Sx w L M D wx) {b : Nat} {T : TypeId} {cs : Array Value} (hb : Blk wx b T cs) {e : Ending} {w' : World} (k : Below wx.heap.size wx w') : Blk w' b T cs := hb.below k hb.lt

set_option maxRecDepth 100000 in
set_option maxHeartbeats 4000000 in
theorem foldMatchesReference_walk (w : World) (v0 : Value) (x0 : List R6) (h0 : IsR6s w v0 x0) (v1 : Value) (x1 : List R6) (h1 : IsR6s w v1 x1) (v2 : Value) (x2 : List Sp) (h2 : IsSpans w v2 x2) :
    Calls Tryz.prog 5 #[v0, v1, v2] w fun e w' => e = .returned (.bool true) ∧ Below w.heap.size w w' := by
  have H0 := Lib.hid h0
  have H1 := Lib.hid h1
  obtain ⟨p2, cap2, rfl, hcl, hcm, -⟩ := id h2
  have H2 := Lib.hid h2
  unfold maxLen at hcm
  clear h0 h1 h2
  by_cases hlen : x2.length ≤ 4
  · have hgt : decide (4 < x2.length) = false := by simp; omega
    have hgz : decide ((4 : Int) < (x2.length : Int)) = false := by simp; omega
    obtain ⟨a, ea⟩ : ∃ r, r = listS x0 12 := ⟨_, rfl⟩
    obtain ⟨b, eb⟩ : ∃ r, r = listS x1 12 := ⟨_, rfl⟩
    obtain ⟨R, eR⟩ : ∃ r, r = (liveS a x2).1 := ⟨_, rfl⟩
    obtain ⟨E, eE⟩ : ∃ r, r = (liveS a x2).2 := ⟨_, rfl⟩
    obtain ⟨C, eC⟩ : ∃ r, r = reduceS a := ⟨_, rfl⟩
    obtain ⟨G, eG⟩ : ∃ r, r = mergeM a b := ⟨_, rfl⟩
    have ha : ∀ m ∈ a, Ok m ∧ OneToSix m ∧ Few m := by rw [ea]; exact listS_all _ _
    have hb : ∀ m ∈ b, Ok m ∧ OneToSix m ∧ Few m := by rw [eb]; exact listS_all _ _
    have hal : a.length ≤ 12 := by rw [ea]; exact listS_len _ _
    have hbl : b.length ≤ 12 := by rw [eb]; exact listS_len _ _
    have HA := Lib.hid (fun m hm => (ha m hm).1)
    have HB := Lib.hid (fun m hm => (hb m hm).1)
    have HA2 := Lib.hid (fun m hm => (⟨(ha m hm).1, (ha m hm).2.1⟩ : Ok m ∧ OneToSix m))
    have HB2 := Lib.hid (fun m hm => (⟨(hb m hm).1, (hb m hm).2.1⟩ : Ok m ∧ OneToSix m))
    have Ea := Lib.hid ea
    have Eb := Lib.hid eb
    have ER := Lib.hid eR
    have EE := Lib.hid eE
    have EC := Lib.hid eC
    have EG := Lib.hid eG
    clear ha hb ea eb eR eE eC eG
    go_enter Tryz.func5, Tryz.ntmps5
    go_wp2_with fail
    refine (Fx.fsanity_w w).mono ?_
    rintro e0 w0 ⟨rfl, hb0⟩
    have S0 := Lib.hid (Sx.start hb0)
    clear hb0
    go_wp2_with fail
    refine (sx_list S0.out (H0.out.below S0.out.g) 12 (by omega) a Ea.out).mono ?_
    rintro e1 w1 ⟨pa, ca, rfl, hs1⟩
    have S1 := Lib.hid hs1
    clear hs1 S0
    go_wp2_with fail
    refine (sx_list S1.out (H1.out.below S1.out.g) 12 (by omega) b Eb.out).mono ?_
    rintro e2 w2 ⟨pb, cb, rfl, hs2⟩
    have S2 := Lib.hid hs2
    clear hs2 S1
    go_wp2_with fail
    refine (sx_live S2.out a x2 R E ER.out EE.out (by simp) (H2.out.below S2.out.g) HA.out (by omega) (by omega)).mono ?_
    rintro e3 w3 ⟨p3, c3, q3, k3, rfl, hs3⟩
    have S3 := Lib.hid hs3
    clear hs3 S2
    go_wp2_with fail
    refine (sx_rlive S3.out a x2 R E ER.out EE.out (by simp) (H2.out.below S3.out.g) HA2.out (by omega)).mono ?_
    rintro e4 w4 ⟨p4, c4, q4, k4, rfl, hs4⟩
    have S4 := Lib.hid (hs4.alloc (.cells #[.slice p4 R.length c4, .slice q4 E.length k4] 50))
    have hX4 : Blk (w4.alloc (.cells #[.slice p4 R.length c4, .slice q4 E.length k4] 50)) w4.heap.size 50 #[.slice p4 R.length c4, .slice q4 E.length k4] := Blk.new _ _ _
    have HX4 := Lib.hid hX4
    have f0 := hX4.c0 0 _ rfl
    have f1 := hX4.c0 1 _ rfl
    clear hs4 S3 hX4
    go_wp2_with fail
    refine (fsame_w _ _ R R _ (S4.out.m (.slice p3 R.length c3, R) (by simp)) (S4.out.m (.slice p4 R.length c4, R) (by simp))).mono ?_
    rintro e5 w5 ⟨rfl, n5, rfl⟩
    rw [decide_eq_true (rfl : R = R)]
    have S5 := Lib.hid (S4.out.below (below_drewN _ n5))
    clear S4
    go_wp2_with fail
    refine (fspans_w _ _ E E _ (S5.out.s (.slice q3 E.length k3, E) (by simp)) (S5.out.s (.slice q4 E.length k4, E) (by simp))).mono ?_
    rintro e6 w6 ⟨rfl, n6, rfl⟩
    rw [decide_eq_true (rfl : E = E)]
    have S6 := Lib.hid (S5.out.below (below_drewN _ n6))
    clear S5 f0 f1 HX4
    generalize (World.drewN _ n6) = w6 at *
    go_wp2_with fail
    refine (sx_reduce S6.out a C EC.out (by simp) HA.out (by omega)).mono ?_
    rintro e7 w7 ⟨p7, c7, rfl, hs7⟩
    have S7 := Lib.hid hs7
    clear hs7 S6
    go_wp2_with fail
    refine (sx_rreduce S7.out a C EC.out (by simp) HA2.out (by omega)).mono ?_
    rintro e8 w8 ⟨p8, c8, rfl, hs8⟩
    have S8 := Lib.hid hs8
    clear hs8 S7
    go_wp2_with fail
    refine (sx_fsame S8.out C C (S8.out.m (.slice p7 C.length c7, C) (by simp)) (S8.out.m (.slice p8 C.length c8, C) (by simp))).mono ?_
    rintro e9 w9 ⟨rfl, hs9⟩
    rw [decide_eq_true (rfl : C = C)]
    have S9 := Lib.hid hs9
    clear hs9 S8
    go_wp2_with fail
    refine (sx_merge S9.out a b G EG.out (by simp) (by simp) HA.out HB.out (by omega)).mono ?_
    rintro e10 w10 ⟨p10, c10, rfl, hs10⟩
    have S10 := Lib.hid hs10
    clear hs10 S9
    go_wp2_with fail
    refine (sx_rmerge S10.out a b G EG.out (by simp) (by simp) HA2.out HB2.out (by omega)).mono ?_
    rintro e11 w11 ⟨p11, c11, rfl, hs11⟩
    have S11 := Lib.hid hs11
    clear hs11 S10
    go_wp2_with fail
    refine (sx_fsame S11.out G G (S11.out.m (.slice p10 G.length c10, G) (by simp)) (S11.out.m (.slice p11 G.length c11, G) (by simp))).mono ?_
    rintro e12 w12 ⟨rfl, hs12⟩
    rw [decide_eq_true (rfl : G = G)]
    have HZ := Lib.hid hs12.g
    clear hs12 S11
    go_wp2
    go_ret
    exact ⟨rfl, HZ.out⟩
  · have hgt : decide (4 < x2.length) = true := by simp; omega
    have hgz : (4 : Int) < (x2.length : Int) := by omega
    clear hlen
    go_enter Tryz.func5, Tryz.ntmps5
    go_wp2_with fail
    refine (Fx.fsanity_w w).mono ?_
    rintro e0 w0 ⟨rfl, hb0⟩
    have HZ := Lib.hid hb0
    clear hb0
    go_wp2
    go_ret
    exact ⟨rfl, HZ.out⟩

end Go.Proofs.YtpppkjcbheooeaaGreat
