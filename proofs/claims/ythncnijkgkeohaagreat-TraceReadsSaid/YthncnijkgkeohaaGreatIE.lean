/-
  The walk of the law TraceReads.
-/
import Derived.Test.YthncnijkgkeohaaGreatIC
namespace Go.Proofs.YthncnijkgkeohaaGreat
open Go.RowKit Go.Sort
set_option linter.unusedVariables false

theorem findV_eq (t : List Pr) (k : Bs) : findV t k = .tuple #[.agg #[.string (Str (optP (findS k t)).1), .string (Str (optP (findS k t)).2.1), .int .i64 (optP (findS k t)).2.2], .bool (findS k t).isSome] := by
  cases h : findS k t with
  | none => rw [findV_none h]; rfl
  | some x => rw [findV_some h]; rfl
theorem keyS_small (n : Nat) : (T4.keyS n).length ≤ 60 := Nat.le_trans (T4.keyS_len n) (by omega)
/-- Reading where a key comes from, as the law does it. -/
theorem value_read (k : Bs) (ms : List Ms) (T A : List Pr) (f : Fd) (hf : f = keyF k ms) (h : readF (keyF k ms) T = (optP (findS k A), (findS k A).isSome)) (w : World) :
    Calls Tryz.prog 15 #[fdV f, .agg #[.string (Str (optP (findS f.key T)).1), .string (Str (optP (findS f.key T)).2.1), .int .i64 (optP (findS f.key T)).2.2], .bool (findS f.key T).isSome] w fun e w' =>
      e = .returned (.tuple #[.agg #[.string (Str (optP (findS k A)).1), .string (Str (optP (findS k A)).2.1), .int .i64 (optP (findS k A)).2.2], .bool (findS k A).isSome]) ∧ Grown w w' := by
  rw [← hf] at h
  have h2 : valF f (optP (findS f.key T)) (findS f.key T).isSome = (optP (findS k A), (findS k A).isSome) := h
  have h3 := tvalue_w f (optP (findS f.key T)) (findS f.key T).isSome w
  rw [h2] at h3
  exact h3
theorem neq_same (p : Pr) (w : World) : (binOp .neq 33 (.agg #[.string (Str p.1), .string (Str p.2.1), .int .i64 p.2.2]) (.agg #[.string (Str p.1), .string (Str p.2.1), .int .i64 p.2.2])).run Tryz.prog w = .ok (.bool false) w := by
  rw [T4.neq_pair]
  simp [T4.prQ]

set_option maxRecDepth 100000 in
set_option maxHeartbeats 4000000 in
theorem traceReads_walk (w : World) (v0 : Value) (x0 : List Rw) (h0 : T4.IsRaws w v0 x0) (v1 : Value) (x1 : List R6) (h1 : IsR6s w v1 x1) (v2 : Value) (x2 : Bs) (h2 : v2 = .string (Str x2) ∧ x2.length ≤ maxLen) :
    Calls Tryz.prog 4 #[v0, v1, v2] w fun e w' => e = .returned (.bool true) ∧ Below w.heap.size w w' := by
  obtain ⟨rfl, h2⟩ := h2
  unfold maxLen at h2
  have hsz := size_Str x2
  have H0 := Lib.hid h0
  have H1 := Lib.hid h1
  clear h0 h1
  by_cases hlong : 60 < x2.length
  · have hlz : (60 : Int) < (x2.length : Int) := by omega
    clear H0 H1
    go_enter Tryz.func4, Tryz.ntmps4
    go_wp2_with fail
    refine (sanity_w w).mono ?_
    rintro e0 w0 ⟨rfl, hb0⟩
    have HB := Lib.hid hb0
    clear hb0
    go_wp2
    go_ret
    exact ⟨rfl, HB.out⟩
  have hlz : ¬ (60 : Int) < (x2.length : Int) := by omega
  obtain ⟨T, eT⟩ : ∃ r, r = T4.madeS x0 := ⟨_, rfl⟩
  obtain ⟨ms, ems⟩ : ∃ r, r = listS x1 10 := ⟨_, rfl⟩
  obtain ⟨A, eA⟩ : ∃ r, r = allS ms T := ⟨_, rfl⟩
  have hst : Srt T := by rw [eT]; exact T4.srt_made _
  have hall : ∀ m ∈ ms, Ok m ∧ Few m := by rw [ems]; exact listS_all _ _
  have hml : ms.length ≤ 10 := by rw [ems]; exact listS_len _ _
  have OK1 := Lib.hid (okAll_many ms hst (by rw [eT]; exact Nat.le_trans (T4.made_len _) (by omega)) (fun x hx => Nat.le_trans (T4.made_small x (by rw [← eT]; exact hx)).1 (by omega)) (fun m hm => (hall m hm).2) (by omega))
  have HST := Lib.hid hst
  have HSA : Hid (Srt A) := Lib.hid (by rw [eA]; exact srt_allS _ hst)
  have HALL := Lib.hid (fun m hm => (hall m hm).1)
  have HRD := Lib.hid (fun k => key_read k (fun m hm => (hall m hm).1.2) hst)
  rw [← eA] at HRD
  have hTl : T.length ≤ 40 := by rw [eT]; exact T4.made_len _
  have hAl : A.length ≤ 100000000 := by rw [eA]; exact (okAll_end OK1.out).1
  clear hst hall
  have ET := Lib.hid eT
  have Ems := Lib.hid ems
  have EA := Lib.hid eA
  clear eT ems eA
  go_enter Tryz.func4, Tryz.ntmps4
  go_wp2_with fail
  refine (sanity_w w).mono ?_
  rintro e0 w0 ⟨rfl, hb0⟩
  have S0 := Lib.hid (Sx.start hb0)
  clear hb0
  go_wp2_with fail
  refine (sx_made S0.out (H0.out.below S0.out.g) T ET.out).mono ?_
  rintro e1 w1 ⟨p1, c1, rfl, hs1⟩
  have S1 := Lib.hid hs1
  clear hs1 S0
  go_wp2_with fail
  refine (sx_list S1.out (H1.out.below S1.out.g) 10 (by omega) ms Ems.out).mono ?_
  rintro e2 w2 ⟨p2, c2, rfl, hs2⟩
  have S2 := Lib.hid hs2
  clear hs2 S1
  go_wp2_with fail
  refine (sx_all S2.out T ms A EA.out (by simp) (by simp) HST.out HALL.out OK1.out).mono ?_
  rintro e3 w3 ⟨p3, c3, rfl, hs3⟩
  have S3 := Lib.hid hs3
  clear hs3 S2
  go_wp2_with fail
  go_loopw [11] (fun i wr => ∃ j : Nat, j ≤ 25 ∧ i = .int .i64 j ∧ Sx w [(.slice p3 A.length c3, A), (.slice p1 T.length c1, T)] [(.slice p2 ms.length c2, ms)] [] wr) (fun i _ => 25 - (intOf i).toNat)
  case atStart => exact ⟨0, Nat.zero_le _, rfl, S3.out⟩
  case round =>
    obtain ⟨j, hj, rfl, hs⟩ := hrel
    have HS := Lib.hid hs
    clear hs
    by_cases hlt : j < 25
    · have hltz : (j : Int) < 25 := by omega
      by_cases h24 : j < 24
      · have h24z : (j : Int) < 24 := by omega
        have hu8 : IntKind.u8.wrap (j : Int) = (j : Int) := by simp [IntKind.wrap, IntKind.bits, IntKind.signed]; omega
        have hkey := T4.key_w j wr (by omega)
        have hkl := keyS_small j
        go_wp2_with fail
        refine hkey.mono ?_
        rintro ek wk ⟨rfl, hbk⟩
        have HS' := Lib.hid (HS.out.below hbk)
        clear hbk HS hkey hu8 wr
        rename _ => HS
        obtain ⟨K, eK⟩ : ∃ K, K = T4.keyS j := ⟨_, rfl⟩
        rw [← eK] at hkl ⊢
        clear eK
        obtain ⟨f, ef⟩ : ∃ f, f = keyF K ms := ⟨_, rfl⟩
        have HV := Lib.hid (value_read K ms T A f ef (HRD.out K))
        have Hf := Lib.hid ef
        clear ef
        go_wp2_with fail
        refine (sx_key HS.out K ms f Hf.out (HS.out.m (.slice p2 ms.length c2, ms) (by simp)) HALL.out (by omega) (by omega)).mono ?_
        rintro e4 w4 ⟨rfl, hs4⟩
        have hs4' := hs4.alloc (.cells (encF f) 35)
        have HS4 := Lib.hid hs4'
        have HF4 : Hid (Blk (w4.alloc (.cells (encF f) 35)) w4.heap.size 35 (encF f)) := Lib.hid (Blk.new _ _ _)
        clear hs4 hs4'
        go_wp2_with fail
        have hfd := find_w (.slice p1 T.length c1) T f.key (w4.alloc (.cells (encF f) 35)) (HS4.out.p (.slice p1 T.length c1, T) (by simp)) HST.out (by omega)
        rw [findV_eq] at hfd
        refine hfd.mono ?_
        clear hfd
        rintro e5 w5 ⟨rfl, hb5⟩
        have HS5 := Lib.hid (HS4.out.below hb5)
        have HF5 := Lib.hid (HF4.out.below hb5 HF4.out.lt)
        have hlf := HF5.out.lt
        obtain ⟨z0, z1, z2, z3, z4, z5, z6, z7⟩ := HF5.out.eightC
        have hvr := HV.out
        clear hb5 HF4 HS4
        generalize optP (findS f.key T) = pp at *
        generalize (findS f.key T).isSome = hh at *
        go_wp2_with fail
        refine (hvr _).mono ?_
        rintro e6 w6 ⟨rfl, hg6⟩
        have HS6 := Lib.hid ((HS5.out.alloc _).below (hg6.below (Nat.le_refl _)))
        clear hg6 hvr z0 z1 z2 z3 z4 z5 z6 z7 hlf HF5 HS5
        go_wp2_with fail
        have hfd := find_w (.slice p3 A.length c3) A K _ ((HS6.out.alloc (.cells #[.string (Str (optP (findS K A)).1), .string (Str (optP (findS K A)).2.1), .int .i64 (optP (findS K A)).2.2] 33)).p (.slice p3 A.length c3, A) (by simp)) HSA.out (by omega)
        rw [findV_eq] at hfd
        refine hfd.mono ?_
        clear hfd
        rintro e7 w7 ⟨rfl, hb7⟩
        have HG7 : Hid (Blk w7 w6.heap.size 33 #[.string (Str (optP (findS K A)).1), .string (Str (optP (findS K A)).2.1), .int .i64 (optP (findS K A)).2.2]) := Lib.hid ((Blk.new _ _ _).below hb7 (by simp))
        have HS7 := Lib.hid ((HS6.out.alloc _).below hb7)
        have hlg := HG7.out.lt
        obtain ⟨y0, y1, y2, -⟩ := HG7.out.three
        clear hb7 HS6 HG7
        generalize optP (findS K A) = qq at *
        generalize (findS K A).isSome = gg at *
        have hnq := neq_same qq
        obtain ⟨q1, q2, q3⟩ := qq
        dsimp only at hnq y0 y1 y2
        go_wp2
        have HS8 := Lib.hid (HS7.out.alloc (.cells #[.string (Str q1), .string (Str q2), .int .i64 q3] 33))
        go_roundw
        case rel => exact ⟨j + 1, by omega, by go_num, HS8.out⟩
        case measure => simp [intOf]; omega
      · have h24z : ¬ (j : Int) < 24 := by omega
        obtain ⟨f, ef⟩ : ∃ f, f = keyF x2 ms := ⟨_, rfl⟩
        have HV := Lib.hid (value_read x2 ms T A f ef (HRD.out x2))
        have Hf := Lib.hid ef
        clear ef
        go_wp2_with fail
        refine (sx_key HS.out x2 ms f Hf.out (HS.out.m (.slice p2 ms.length c2, ms) (by simp)) HALL.out (by omega) (by omega)).mono ?_
        rintro e4 w4 ⟨rfl, hs4⟩
        have hs4' := hs4.alloc (.cells (encF f) 35)
        have HS4 := Lib.hid hs4'
        have HF4 : Hid (Blk (w4.alloc (.cells (encF f) 35)) w4.heap.size 35 (encF f)) := Lib.hid (Blk.new _ _ _)
        clear hs4 hs4'
        go_wp2_with fail
        have hfd := find_w (.slice p1 T.length c1) T f.key (w4.alloc (.cells (encF f) 35)) (HS4.out.p (.slice p1 T.length c1, T) (by simp)) HST.out (by omega)
        rw [findV_eq] at hfd
        refine hfd.mono ?_
        clear hfd
        rintro e5 w5 ⟨rfl, hb5⟩
        have HS5 := Lib.hid (HS4.out.below hb5)
        have HF5 := Lib.hid (HF4.out.below hb5 HF4.out.lt)
        have hlf := HF5.out.lt
        obtain ⟨z0, z1, z2, z3, z4, z5, z6, z7⟩ := HF5.out.eightC
        have hvr := HV.out
        clear hb5 HF4 HS4
        generalize optP (findS f.key T) = pp at *
        generalize (findS f.key T).isSome = hh at *
        go_wp2_with fail
        refine (hvr _).mono ?_
        rintro e6 w6 ⟨rfl, hg6⟩
        have HS6 := Lib.hid ((HS5.out.alloc _).below (hg6.below (Nat.le_refl _)))
        clear hg6 hvr z0 z1 z2 z3 z4 z5 z6 z7 hlf HF5 HS5
        go_wp2_with fail
        have hfd := find_w (.slice p3 A.length c3) A x2 _ ((HS6.out.alloc (.cells #[.string (Str (optP (findS x2 A)).1), .string (Str (optP (findS x2 A)).2.1), .int .i64 (optP (findS x2 A)).2.2] 33)).p (.slice p3 A.length c3, A) (by simp)) HSA.out (by omega)
        rw [findV_eq] at hfd
        refine hfd.mono ?_
        clear hfd
        rintro e7 w7 ⟨rfl, hb7⟩
        have HG7 : Hid (Blk w7 w6.heap.size 33 #[.string (Str (optP (findS x2 A)).1), .string (Str (optP (findS x2 A)).2.1), .int .i64 (optP (findS x2 A)).2.2]) := Lib.hid ((Blk.new _ _ _).below hb7 (by simp))
        have HS7 := Lib.hid ((HS6.out.alloc _).below hb7)
        have hlg := HG7.out.lt
        obtain ⟨y0, y1, y2, -⟩ := HG7.out.three
        clear hb7 HS6 HG7
        generalize optP (findS x2 A) = qq at *
        generalize (findS x2 A).isSome = gg at *
        have hnq := neq_same qq
        obtain ⟨q1, q2, q3⟩ := qq
        dsimp only at hnq y0 y1 y2
        go_wp2
        have HS8 := Lib.hid (HS7.out.alloc (.cells #[.string (Str q1), .string (Str q2), .int .i64 q3] 33))
        go_roundw
        case rel => exact ⟨j + 1, by omega, by go_num, HS8.out⟩
        case measure => simp [intOf]; omega
    · obtain rfl : j = 25 := by omega
      have HB := Lib.hid HS.out.g
      go_wp2
      go_ret
      exact ⟨rfl, HB.out⟩

end Go.Proofs.YthncnijkgkeohaaGreat
