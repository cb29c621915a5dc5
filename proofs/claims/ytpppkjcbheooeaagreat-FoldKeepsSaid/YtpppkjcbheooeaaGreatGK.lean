/-
  The walk of the law FoldKeeps.
-/
import Derived.Test.YtpppkjcbheooeaaGreatGJ
import Derived.Test.YtpppkjcbheooeaaGreatGH
namespace Go.Proofs.YtpppkjcbheooeaaGreat
open Go.RowKit Go.Sort
set_option linter.unusedVariables false

set_option maxRecDepth 100000 in
set_option maxHeartbeats 4000000 in
theorem foldKeeps_walk (w : World) (v0 : Value) (x0 : List Rw) (h0 : T4.IsRaws w v0 x0) (v1 : Value) (x1 : List R6) (h1 : IsR6s w v1 x1) :
    Calls Tryz.prog 6 #[v0, v1] w fun e w' => e = .returned (.bool true) ∧ Below w.heap.size w w' := by
  have H0 := Lib.hid h0
  have H1 := Lib.hid h1
  clear h0 h1
  obtain ⟨T, eT⟩ : ∃ r, r = T4.madeS x0 := ⟨_, rfl⟩
  obtain ⟨ms, ems⟩ : ∃ r, r = listS x1 14 := ⟨_, rfl⟩
  obtain ⟨R, eR⟩ : ∃ r, r = reduceS ms := ⟨_, rfl⟩
  obtain ⟨A, eA⟩ : ∃ r, r = allS ms T := ⟨_, rfl⟩
  obtain ⟨B, eB⟩ : ∃ r, r = allS R T := ⟨_, rfl⟩
  have hst : Srt T := by rw [eT]; exact T4.srt_made _
  have hall : ∀ m ∈ ms, Ok m ∧ OneToSix m ∧ Few m := by rw [ems]; exact listS_all _ _
  have hml : ms.length ≤ 14 := by rw [ems]; exact listS_len _ _
  have hsub : R.Sublist ms := by rw [eR]; exact reduce_sub _
  have hrl : R.length ≤ ms.length := hsub.length_le
  have OK1 := Lib.hid (okAll_many ms hst (by rw [eT]; exact Nat.le_trans (T4.made_len _) (by omega)) (fun x hx => Nat.le_trans (T4.made_small x (by rw [← eT]; exact hx)).1 (by omega)) (fun m hm => (hall m hm).2.2) (by omega))
  have OK2 := Lib.hid (okAll_many R hst (by rw [eT]; exact Nat.le_trans (T4.made_len _) (by omega)) (fun x hx => Nat.le_trans (T4.made_small x (by rw [← eT]; exact hx)).1 (by omega)) (fun m hm => (hall m (hsub.subset hm)).2.2) (by omega))
  have HST := Lib.hid hst
  have HALL := Lib.hid hall
  have HSUB := Lib.hid hsub
  have HEQ : Hid (A = B) := Lib.hid (by rw [eA, eB, eR, reduce_eff ms hst])
  clear hst hall hsub
  have ET := Lib.hid eT
  have Ems := Lib.hid ems
  have ER := Lib.hid eR
  have EA := Lib.hid eA
  have EB := Lib.hid eB
  clear eT ems eR eA eB
  go_enter Tryz.func6, Tryz.ntmps6
  go_wp2_with fail
  refine (Fx.fsanity_w w).mono ?_
  rintro e0 w0 ⟨rfl, hb0⟩
  have S0 := Lib.hid (Sx.start hb0)
  clear hb0
  go_wp2_with fail
  refine (sx_made S0.out (H0.out.below S0.out.g) T ET.out).mono ?_
  rintro e1 w1 ⟨p1, c1, rfl, hs1⟩
  have S1 := Lib.hid hs1
  clear hs1 S0
  go_wp2_with fail
  refine (sx_list S1.out (H1.out.below S1.out.g) 14 (by omega) ms Ems.out).mono ?_
  rintro e2 w2 ⟨p2, c2, rfl, hs2⟩
  have S2 := Lib.hid hs2
  clear hs2 S1
  go_wp2_with fail
  refine (sx_reduce S2.out ms R ER.out (by simp) (fun m hm => (HALL.out m hm).1) (by omega)).mono ?_
  rintro e3 w3 ⟨p3, c3, rfl, hs3⟩
  have S3 := Lib.hid hs3
  clear hs3 S2
  go_wp2_with fail
  refine (sx_all S3.out T ms A EA.out (by simp) (by simp) HST.out (fun m hm => (HALL.out m hm).1) OK1.out).mono ?_
  rintro e4 w4 ⟨p4, c4, rfl, hs4⟩
  have S4 := Lib.hid hs4
  clear hs4 S3
  go_wp2_with fail
  refine (sx_all S4.out T R B EB.out (by simp) (by simp) HST.out (fun m hm => (HALL.out m (HSUB.out.subset hm)).1) OK2.out).mono ?_
  rintro e5 w5 ⟨p5, c5, rfl, hs5⟩
  have S5 := Lib.hid hs5
  clear hs5 S4
  go_wp2_with fail
  refine (sx_same S5.out A B HEQ.out (by simp) (by simp)).mono ?_
  rintro e6 w6 ⟨rfl, hs6⟩
  have S6 := Lib.hid hs6
  clear hs6 S5
  have HB := Lib.hid S6.out.g
  clear S6
  go_wp2
  go_ret
  exact ⟨rfl, HB.out⟩

end Go.Proofs.YtpppkjcbheooeaaGreat
