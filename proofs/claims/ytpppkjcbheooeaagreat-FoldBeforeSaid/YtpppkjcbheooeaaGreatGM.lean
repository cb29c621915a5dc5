/-
  The walk of the law FoldBefore.
-/
import Derived.Test.YtpppkjcbheooeaaGreatGJ
import Derived.Test.YtpppkjcbheooeaaGreatGH
namespace Go.Proofs.YtpppkjcbheooeaaGreat
open Go.RowKit Go.Sort
set_option linter.unusedVariables false

set_option maxRecDepth 100000 in
set_option maxHeartbeats 4000000 in
theorem foldBefore_walk (w : World) (v0 : Value) (x0 : List Rw) (h0 : T4.IsRaws w v0 x0) (v1 : Value) (x1 : List Rw) (h1 : T4.IsRaws w v1 x1) (v2 : Value) (x2 : List R6) (h2 : IsR6s w v2 x2) :
    Calls Tryz.prog 11 #[v0, v1, v2] w fun e w' => e = .returned (.bool true) ∧ Below w.heap.size w w' := by
  have H0 := Lib.hid h0
  have H1 := Lib.hid h1
  have H2 := Lib.hid h2
  clear h0 h1 h2
  obtain ⟨T, eT⟩ : ∃ r, r = T4.madeS x0 := ⟨_, rfl⟩
  obtain ⟨U, eU⟩ : ∃ r, r = T4.madeS x1 := ⟨_, rfl⟩
  obtain ⟨ms, ems⟩ : ∃ r, r = listS x2 14 := ⟨_, rfl⟩
  obtain ⟨R, eR⟩ : ∃ r, r = (liveS ms []).1 := ⟨_, rfl⟩
  obtain ⟨E, eE⟩ : ∃ r, r = (liveS ms []).2 := ⟨_, rfl⟩
  obtain ⟨O, eO⟩ : ∃ r, r = withoutS E T := ⟨_, rfl⟩
  obtain ⟨I, eI⟩ : ∃ r, r = withinS E U := ⟨_, rfl⟩
  obtain ⟨Z, eZ⟩ : ∃ r, r = unionS O I := ⟨_, rfl⟩
  obtain ⟨A, eA⟩ : ∃ r, r = allS ms T := ⟨_, rfl⟩
  obtain ⟨B, eB⟩ : ∃ r, r = allS ms Z := ⟨_, rfl⟩
  obtain ⟨C, eC⟩ : ∃ r, r = allS R T := ⟨_, rfl⟩
  obtain ⟨D, eD⟩ : ∃ r, r = allS R Z := ⟨_, rfl⟩
  have hst : Srt T := by rw [eT]; exact T4.srt_made _
  have hsu : Srt U := by rw [eU]; exact T4.srt_made _
  have hso : Srt O := by rw [eO]; exact srt_without _ hst
  have hsi : Srt I := by rw [eI]; exact srt_within _ hsu
  have hsz : Srt Z := by rw [eZ]; exact srt_union hso _
  have hall : ∀ m ∈ ms, Ok m ∧ OneToSix m ∧ Few m := by rw [ems]; exact listS_all _ _
  have hml : ms.length ≤ 14 := by rw [ems]; exact listS_len _ _
  have hsub : R.Sublist ms := by rw [eR]; exact reduce_sub ms
  have hrl : R.length ≤ ms.length := hsub.length_le
  have hT1 : T.length ≤ 40 := by rw [eT]; exact T4.made_len _
  have hU1 : U.length ≤ 40 := by rw [eU]; exact T4.made_len _
  have hO1 : O.length ≤ 40 := by rw [eO]; exact Nat.le_trans (without_len _ _) hT1
  have hI1 : I.length ≤ 40 := by rw [eI]; exact Nat.le_trans (within_len _ _) hU1
  have hZ1 : Z.length ≤ 80 := by rw [eZ]; exact Nat.le_trans (union_length _ _) (by omega)
  have hT2 : ∀ x ∈ T, x.1.length ≤ 100 := fun x hx => Nat.le_trans (T4.made_small x (by rw [← eT]; exact hx)).1 (by omega)
  have hU2 : ∀ x ∈ U, x.1.length ≤ 100 := fun x hx => Nat.le_trans (T4.made_small x (by rw [← eU]; exact hx)).1 (by omega)
  have hZ2 : ∀ x ∈ Z, x.1.length ≤ 100 := fun x hx => by
    rw [eZ, mem_union _ hsi] at hx
    rcases hx with h | ⟨h, -⟩
    · rw [eI, mem_within] at h; exact hU2 x h.1
    · rw [eO, mem_without] at h; exact hT2 x h.1
  have hfew : ∀ m ∈ ms, Few m := fun m hm => (hall m hm).2.2
  have hfewR : ∀ m ∈ R, Few m := fun m hm => (hall m (hsub.subset hm)).2.2
  have OK1 := Lib.hid (okAll_many ms hst (by omega) hT2 hfew (by omega))
  have OK2 := Lib.hid (okAll_many ms hsz hZ1 hZ2 hfew (by omega))
  have OK3 := Lib.hid (okAll_many R hst (by omega) hT2 hfewR (by omega))
  have OK4 := Lib.hid (okAll_many R hsz hZ1 hZ2 hfewR (by omega))
  have hwo : withoutS (liveS ms []).2 T = withoutS (liveS ms []).2 Z := by
    rw [← eE]
    refine Srt.unique (srt_without _ hst) (srt_without _ hsz) fun x => ?_
    rw [mem_without, mem_without, eZ, mem_union _ hsi, eO, eI]
    constructor
    · rintro ⟨h1, h2⟩
      refine ⟨.inr ⟨(mem_without _ _ _).2 ⟨h1, h2⟩, fun y hy e => ?_⟩, h2⟩
      have := ((mem_within _ _ _).1 hy).2
      rw [e, h2] at this; cases this
    · rintro ⟨h | ⟨h, -⟩, h2⟩
      · have := ((mem_within _ _ _).1 h).2
        rw [h2] at this; cases this
      · exact ⟨((mem_without _ _ _).1 h).1, h2⟩
  have hbe := before_eff ms hst hsz hwo
  have HEQ1 : Hid (A = B) := Lib.hid (by rw [eA, eB]; exact hbe.1)
  have HEQ2 : Hid (C = D) := Lib.hid (by rw [eC, eD, eR]; exact hbe.2)
  have HST := Lib.hid hst
  have HSZ := Lib.hid hsz
  have HSO := Lib.hid hso
  have HSI := Lib.hid hsi
  have HOK := Lib.hid (fun m hm => (hall m hm).1)
  have HOR := Lib.hid (fun m hm => (hall m (hsub.subset hm)).1)
  clear hst hsu hso hsi hsz hall hsub hT2 hU2 hZ2 hfew hfewR hwo hbe
  have ET := Lib.hid eT
  have EU := Lib.hid eU
  have Ems := Lib.hid ems
  have ER := Lib.hid eR
  have EE := Lib.hid eE
  have EO := Lib.hid eO
  have EI := Lib.hid eI
  have EZ := Lib.hid eZ
  have EA := Lib.hid eA
  have EB := Lib.hid eB
  have EC := Lib.hid eC
  have ED := Lib.hid eD
  clear eT eU ems eR eE eO eI eZ eA eB eC eD
  go_enter Tryz.func11, Tryz.ntmps11
  go_wp2_with fail
  refine (Fx.fsanity_w w).mono ?_
  rintro e0 w0 ⟨rfl, hb0⟩
  have S0 := Lib.hid (Sx.start hb0)
  clear hb0
  go_wp2_with fail
  refine (sx_made S0.out (H0.out.below S0.out.g) T ET.out).mono ?_
  rintro e1 w1 ⟨p1, c1, rfl, hs1⟩
  have S1 := Lib.hid hs1
  clear hs1 S0
  go_wp2_with fail
  refine (sx_list S1.out (H2.out.below S1.out.g) 14 (by omega) ms Ems.out).mono ?_
  rintro e2 w2 ⟨p2, c2, rfl, hs2⟩
  have S2 := Lib.hid hs2
  clear hs2 S1
  go_wp2_with fail
  refine (sx_live S2.out ms [] R E ER.out EE.out (by simp) (isSpans_nil _) HOK.out (by omega) (by simp)).mono ?_
  rintro e3 w3 ⟨p3, c3, q3, k3, rfl, hs3⟩
  have S3 := Lib.hid hs3
  clear hs3 S2
  go_wp2_with fail
  refine (sx_outside S3.out T E O EO.out (by simp) (by simp) (by omega)).mono ?_
  rintro e4 w4 ⟨p4, c4, rfl, hs4⟩
  have S4 := Lib.hid hs4
  clear hs4 S3
  go_wp2_with fail
  refine (sx_made S4.out (H1.out.below S4.out.g) U EU.out).mono ?_
  rintro e5 w5 ⟨p5, c5, rfl, hs5⟩
  have S5 := Lib.hid hs5
  clear hs5 S4
  go_wp2_with fail
  refine (sx_inside S5.out U E I EI.out (by simp) (by simp) (by omega)).mono ?_
  rintro e6 w6 ⟨p6, c6, rfl, hs6⟩
  have S6 := Lib.hid hs6
  clear hs6 S5
  go_wp2_with fail
  refine (sx_union S6.out O I Z EZ.out (by simp) (by simp) HSO.out HSI.out (by omega) (by omega)).mono ?_
  rintro e7 w7 ⟨p7, c7, rfl, hs7⟩
  have S7 := Lib.hid hs7
  clear hs7 S6
  go_wp2_with fail
  refine (sx_all S7.out T ms A EA.out (by simp) (by simp) HST.out HOK.out OK1.out).mono ?_
  rintro e8 w8 ⟨p8, c8, rfl, hs8⟩
  have S8 := Lib.hid hs8
  clear hs8 S7
  go_wp2_with fail
  refine (sx_all S8.out Z ms B EB.out (by simp) (by simp) HSZ.out HOK.out OK2.out).mono ?_
  rintro e9 w9 ⟨p9, c9, rfl, hs9⟩
  have S9 := Lib.hid hs9
  clear hs9 S8
  go_wp2_with fail
  refine (sx_same S9.out A B HEQ1.out (by simp) (by simp)).mono ?_
  rintro e10 w10 ⟨rfl, hs10⟩
  have S10 := Lib.hid hs10
  clear hs10 S9
  go_wp2_with fail
  refine (sx_all S10.out T R C EC.out (by simp) (by simp) HST.out HOR.out OK3.out).mono ?_
  rintro e11 w11 ⟨p11, c11, rfl, hs11⟩
  have S11 := Lib.hid hs11
  clear hs11 S10
  go_wp2_with fail
  refine (sx_all S11.out Z R D ED.out (by simp) (by simp) HSZ.out HOR.out OK4.out).mono ?_
  rintro e12 w12 ⟨p12, c12, rfl, hs12⟩
  have S12 := Lib.hid hs12
  clear hs12 S11
  go_wp2_with fail
  refine (sx_same S12.out C D HEQ2.out (by simp) (by simp)).mono ?_
  rintro e13 w13 ⟨rfl, hs13⟩
  have S13 := Lib.hid hs13
  clear hs13 S12
  have HB := Lib.hid S13.out.g
  clear S13
  go_wp2
  go_ret
  exact ⟨rfl, HB.out⟩

end Go.Proofs.YtpppkjcbheooeaaGreat
