/-
  The walk of the law FoldMerges.
-/
import Derived.Test.YtpppkjcbheooeaaGreatGJ
import Derived.Test.YtpppkjcbheooeaaGreatGH
namespace Go.Proofs.YtpppkjcbheooeaaGreat
open Go.RowKit Go.Sort
set_option linter.unusedVariables false

set_option maxRecDepth 100000 in
set_option maxHeartbeats 4000000 in
theorem foldMerges_walk (w : World) (v0 : Value) (x0 : List Rw) (h0 : T4.IsRaws w v0 x0) (v1 : Value) (x1 : List R6) (h1 : IsR6s w v1 x1) (v2 : Value) (x2 : List R6) (h2 : IsR6s w v2 x2) :
    Calls Tryz.prog 9 #[v0, v1, v2] w fun e w' => e = .returned (.bool true) ∧ Below w.heap.size w w' := by
  have H0 := Lib.hid h0
  have H1 := Lib.hid h1
  have H2 := Lib.hid h2
  clear h0 h1 h2
  obtain ⟨T, eT⟩ : ∃ r, r = T4.madeS x0 := ⟨_, rfl⟩
  obtain ⟨ma, ema⟩ : ∃ r, r = listS x1 10 := ⟨_, rfl⟩
  obtain ⟨mb, emb⟩ : ∃ r, r = listS x2 10 := ⟨_, rfl⟩
  obtain ⟨A, eA⟩ : ∃ r, r = allS ma T := ⟨_, rfl⟩
  obtain ⟨B, eB⟩ : ∃ r, r = allS mb A := ⟨_, rfl⟩
  obtain ⟨mm, emm⟩ : ∃ r, r = mergeM ma mb := ⟨_, rfl⟩
  obtain ⟨ra, era⟩ : ∃ r, r = reduceS ma := ⟨_, rfl⟩
  obtain ⟨rb, erb⟩ : ∃ r, r = reduceS mb := ⟨_, rfl⟩
  obtain ⟨mn, emn⟩ : ∃ r, r = mergeM ra rb := ⟨_, rfl⟩
  obtain ⟨C, eC⟩ : ∃ r, r = allS mm T := ⟨_, rfl⟩
  obtain ⟨D, eD⟩ : ∃ r, r = allS mn T := ⟨_, rfl⟩
  have hst : Srt T := by rw [eT]; exact T4.srt_made _
  have hsa : Srt A := by rw [eA]; exact srt_allS _ hst
  have ha : ∀ m ∈ ma, Ok m ∧ OneToSix m ∧ Few m := by rw [ema]; exact listS_all _ _
  have hb : ∀ m ∈ mb, Ok m ∧ OneToSix m ∧ Few m := by rw [emb]; exact listS_all _ _
  have hla : ma.length ≤ 10 := by rw [ema]; exact listS_len _ _
  have hlb : mb.length ≤ 10 := by rw [emb]; exact listS_len _ _
  have sra : ra.Sublist ma := by rw [era]; exact reduce_sub _
  have srb : rb.Sublist mb := by rw [erb]; exact reduce_sub _
  have smm : mm.Sublist (ma ++ mb) := by rw [emm]; exact reduce_sub _
  have smn : mn.Sublist (ra ++ rb) := by rw [emn]; exact reduce_sub _
  have hra : ra.length ≤ 10 := Nat.le_trans sra.length_le hla
  have hrb : rb.length ≤ 10 := Nat.le_trans srb.length_le hlb
  have hmm : mm.length ≤ ma.length + mb.length := by have := smm.length_le; rw [List.length_append] at this; exact this
  have hmn : mn.length ≤ ra.length + rb.length := by have := smn.length_le; rw [List.length_append] at this; exact this
  have hab : ∀ m ∈ ma ++ mb, Ok m ∧ OneToSix m ∧ Few m := fun m hm => (List.mem_append.1 hm).elim (ha m) (hb m)
  have hrr : ∀ m ∈ ra ++ rb, Ok m ∧ OneToSix m ∧ Few m := fun m hm => (List.mem_append.1 hm).elim (fun h => ha m (sra.subset h)) (fun h => hb m (srb.subset h))
  have hT1 : T.length ≤ 80 := by rw [eT]; exact Nat.le_trans (T4.made_len _) (by omega)
  have hT2 : ∀ x ∈ T, x.1.length ≤ 100 := fun x hx => Nat.le_trans (T4.made_small x (by rw [← eT]; exact hx)).1 (by omega)
  have hok := okAll_many (ma ++ mb) hst hT1 hT2 (fun m hm => (hab m hm).2.2) (by rw [List.length_append]; omega)
  have OKA := Lib.hid (okAll_left hok)
  have OKB : Hid (OkAll mb A) := Lib.hid (by rw [eA]; exact okAll_right hok)
  have OKM := Lib.hid (okAll_many mm hst hT1 hT2 (fun m hm => (hab m (smm.subset hm)).2.2) (by omega))
  have OKN := Lib.hid (okAll_many mn hst hT1 hT2 (fun m hm => (hrr m (smn.subset hm)).2.2) (by omega))
  have HST := Lib.hid hst
  have HSA := Lib.hid hsa
  have HA := Lib.hid (fun m hm => (ha m hm).1)
  have HB9 := Lib.hid (fun m hm => (hb m hm).1)
  have HRA := Lib.hid (fun m hm => (ha m (sra.subset hm)).1)
  have HRB := Lib.hid (fun m hm => (hb m (srb.subset hm)).1)
  have HMM := Lib.hid (fun m hm => (hab m (smm.subset hm)).1)
  have HMN := Lib.hid (fun m hm => (hrr m (smn.subset hm)).1)
  have HEQ1 : Hid (C = B) := Lib.hid (by rw [eC, eB, eA, emm, merge_eff ma mb hst])
  have HEQ2 : Hid (D = B) := Lib.hid (by rw [eD, eB, eA, emn, era, erb, merge_eff2 ma mb hst])
  clear hst hsa ha hb sra srb smm smn hab hrr hT1 hT2 hok
  have ET := Lib.hid eT
  have Ema := Lib.hid ema
  have Emb := Lib.hid emb
  have EA := Lib.hid eA
  have EB := Lib.hid eB
  have Emm := Lib.hid emm
  have Era := Lib.hid era
  have Erb := Lib.hid erb
  have Emn := Lib.hid emn
  have EC := Lib.hid eC
  have ED := Lib.hid eD
  clear eT ema emb eA eB emm era erb emn eC eD
  go_enter Tryz.func9, Tryz.ntmps9
  go_wp2_with fail
  refine (Fx.fsanity_w w).mono ?_
  rintro e0 w0 ⟨rfl, hb0⟩
  have S0 := Lib.hid (Sx.start hb0)
  clear hb0
  go_wp2_with fail
  refine (sx_made S0.out (H0.out.below S0.out.g) T ET.out).mono ?_
  rintro e1 w1 ⟨p1, c1, rfl, hs1⟩
  have S1 := Lib.hid hs1
  clear hs1 S0
  go_wp2_with fail
  refine (sx_list S1.out (H1.out.below S1.out.g) 10 (by omega) ma Ema.out).mono ?_
  rintro e2 w2 ⟨p2, c2, rfl, hs2⟩
  have S2 := Lib.hid hs2
  clear hs2 S1
  go_wp2_with fail
  refine (sx_list S2.out (H2.out.below S2.out.g) 10 (by omega) mb Emb.out).mono ?_
  rintro e3 w3 ⟨p3, c3, rfl, hs3⟩
  have S3 := Lib.hid hs3
  clear hs3 S2
  go_wp2_with fail
  refine (sx_all S3.out T ma A EA.out (by simp) (by simp) HST.out HA.out OKA.out).mono ?_
  rintro e4 w4 ⟨p4, c4, rfl, hs4⟩
  have S4 := Lib.hid hs4
  clear hs4 S3
  go_wp2_with fail
  refine (sx_all S4.out A mb B EB.out (by simp) (by simp) HSA.out HB9.out OKB.out).mono ?_
  rintro e5 w5 ⟨p5, c5, rfl, hs5⟩
  have S5 := Lib.hid hs5
  clear hs5 S4
  go_wp2_with fail
  refine (sx_merge S5.out ma mb mm Emm.out (by simp) (by simp) HA.out HB9.out (by omega)).mono ?_
  rintro e6 w6 ⟨p6, c6, rfl, hs6⟩
  have S6 := Lib.hid hs6
  clear hs6 S5
  go_wp2_with fail
  refine (sx_reduce S6.out ma ra Era.out (by simp) HA.out (by omega)).mono ?_
  rintro e7 w7 ⟨p7, c7, rfl, hs7⟩
  have S7 := Lib.hid hs7
  clear hs7 S6
  go_wp2_with fail
  refine (sx_reduce S7.out mb rb Erb.out (by simp) HB9.out (by omega)).mono ?_
  rintro e8 w8 ⟨p8, c8, rfl, hs8⟩
  have S8 := Lib.hid hs8
  clear hs8 S7
  go_wp2_with fail
  refine (sx_merge S8.out ra rb mn Emn.out (by simp) (by simp) HRA.out HRB.out (by omega)).mono ?_
  rintro e9 w9 ⟨p9, c9, rfl, hs9⟩
  have S9 := Lib.hid hs9
  clear hs9 S8
  go_wp2_with fail
  refine (sx_all S9.out T mm C EC.out (by simp) (by simp) HST.out HMM.out OKM.out).mono ?_
  rintro e10 w10 ⟨p10, c10, rfl, hs10⟩
  have S10 := Lib.hid hs10
  clear hs10 S9
  go_wp2_with fail
  refine (sx_same S10.out C B HEQ1.out (by simp) (by simp)).mono ?_
  rintro e11 w11 ⟨rfl, hs11⟩
  have S11 := Lib.hid hs11
  clear hs11 S10
  go_wp2_with fail
  refine (sx_all S11.out T mn D ED.out (by simp) (by simp) HST.out HMN.out OKN.out).mono ?_
  rintro e12 w12 ⟨p12, c12, rfl, hs12⟩
  have S12 := Lib.hid hs12
  clear hs12 S11
  go_wp2_with fail
  refine (sx_same S12.out D B HEQ2.out (by simp) (by simp)).mono ?_
  rintro e13 w13 ⟨rfl, hs13⟩
  have S13 := Lib.hid hs13
  clear hs13 S12
  have HB := Lib.hid S13.out.g
  clear S13
  go_wp2
  go_ret
  exact ⟨rfl, HB.out⟩

end Go.Proofs.YtpppkjcbheooeaaGreat
