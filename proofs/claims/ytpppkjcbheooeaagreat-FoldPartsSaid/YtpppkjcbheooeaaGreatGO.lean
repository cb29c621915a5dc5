/-
  The walk of the law FoldParts.
-/
import Derived.Test.YtpppkjcbheooeaaGreatGJ
import Derived.Test.YtpppkjcbheooeaaGreatGH
namespace Go.Proofs.YtpppkjcbheooeaaGreat
open Go.RowKit Go.Sort
set_option linter.unusedVariables false

theorem sx_reduceB {w wx : World} {L : List (Value × List Pr)} {M : List (Value × List Ms)} {D : List (Value × List Sp)} (h : Sx w L M D wx) {v : Value} (ms R : List Ms) (hR : R = reduceS ms) (hv : (v, ms) ∈ M) (hz : ∀ m ∈ ms, Ok m) (hl : ms.length ≤ 50) : Calls Tryz.prog 27 #[v] wx (SxM w L M D R) :=
  sx_reduce h ms R hR hv hz hl

set_option maxRecDepth 100000 in
set_option maxHeartbeats 4000000 in
theorem foldParts_walk (w : World) (v0 : Value) (x0 : List R6) (h0 : IsR6s w v0 x0) :
    Calls Tryz.prog 8 #[v0] w fun e w' => e = .returned (.bool true) ∧ Below w.heap.size w w' := by
  have H0 := Lib.hid h0
  clear h0
  obtain ⟨ms, ems⟩ : ∃ r, r = listS x0 14 := ⟨_, rfl⟩
  obtain ⟨R, eR⟩ : ∃ r, r = reduceS ms := ⟨_, rfl⟩
  have hall : ∀ m ∈ ms, Ok m ∧ OneToSix m ∧ Few m := by rw [ems]; exact listS_all _ _
  have hml : ms.length ≤ 14 := by rw [ems]; exact listS_len _ _
  have hsub : R.Sublist ms := by rw [eR]; exact reduce_sub _
  have hrl : R.length ≤ ms.length := hsub.length_le
  have HSUB := Lib.hid hsub
  have HLAST : Hid (ms ≠ [] → ∃ k j, ∃ (h1 : R.length = k + 1) (h2 : ms.length = j + 1), R[k] = ms[j]) := Lib.hid fun hne => by
    have hw : ∀ m ∈ ms, WrM m := fun m hm => by
      obtain ⟨hok, hkd, -⟩ := hall m hm
      have h1 : writesS m ≠ [] := by rcases hkd.cases with k | k | k | k | k | k <;> simp [writesS, k]
      exact ⟨(writesS m).head h1, List.head_mem h1, hok.2 _ (List.head_mem h1)⟩
    obtain ⟨r, hr⟩ := reduce_end hw hne
    rw [← eR] at hr
    refine ⟨r.length, ms.length - 1, by rw [hr]; simp, by have := List.length_pos_iff.2 hne; omega, ?_⟩
    have h2 : R[r.length]'(by rw [hr]; simp) = ms.getLast hne := by simp only [hr]; rw [List.getElem_append_right (Nat.le_refl _)]; simp
    rw [h2, List.getLast_eq_getElem]
  have HOK := Lib.hid (fun m hm => (hall m hm).1)
  have HOR := Lib.hid (fun m hm => (hall m (hsub.subset hm)).1)
  have HAG : Hid (R = reduceS R) := Lib.hid (by rw [eR, reduce_again])
  have Ems := Lib.hid ems
  have ER := Lib.hid eR
  clear hall hsub ems eR
  go_enter Tryz.func8, Tryz.ntmps8
  go_wp2_with fail
  refine (Fx.fsanity_w w).mono ?_
  rintro e0 w0 ⟨rfl, hb0⟩
  have S0 := Lib.hid (Sx.start hb0)
  clear hb0
  go_wp2_with fail
  refine (sx_list S0.out (H0.out.below S0.out.g) 14 (by omega) ms Ems.out).mono ?_
  rintro e1 w1 ⟨p1, ca, rfl, hs1⟩
  have S1 := Lib.hid hs1
  clear hs1 S0
  go_wp2_with fail
  refine (sx_reduce S1.out ms R ER.out (by simp) HOK.out (by omega)).mono ?_
  rintro e2 w2 ⟨p2, cb, rfl, hs2⟩
  have S2 := Lib.hid hs2
  clear hs2 S1
  have hm0 : IsMsgs w2 (.slice p1 ms.length ca) ms := S2.out.m (.slice p1 ms.length ca, ms) (by simp)
  have hm1 : IsMsgs w2 (.slice p2 R.length cb) R := S2.out.m (.slice p2 R.length cb, R) (by simp)
  obtain ⟨g0, o0, cap0, q0, e0, -, hk0, -, hc0⟩ := hm0.form
  obtain ⟨g1, o1, cap1, q1, e1, -, hk1, -, hc1⟩ := hm1.form
  cases e0
  cases e1
  unfold maxLen at hk0 hk1
  have HC0 := Lib.hid hc0
  have HC1 := Lib.hid hc1
  clear hc0 hc1 hm0 hm1
  go_wp2
  go_loopw [6, 7] (fun a i wr => ∃ j n : Nat, j ≤ ms.length ∧ i = .int .i64 j ∧ a = .int .i64 ((atG (ms.take j) R : Nat) : Int) ∧ wr = w2.drewN n) (fun _ i _ => ms.length - (intOf i).toNat)
  case atStart => exact ⟨0, 0, Nat.zero_le _, rfl, by rw [List.take_zero, atG_nil]; rfl, rfl⟩
  case round =>
    obtain ⟨j, n, hj, rfl, rfl, rfl⟩ := hrel
    by_cases hlt : j < ms.length
    · obtain ⟨rfl, c0, c1, c2, c3, c4, c5, c6, c7⟩ := HC0.out j hlt
      have hltz : (j : Int) < (ms.length : Int) := by omega
      have hTk := Lib.hid (show ms.take (j + 1) = ms.take j ++ [ms[j]] from by rw [List.take_add_one, List.getElem?_eq_getElem hlt]; rfl)
      have HY := Lib.hid (fun (h : atG (ms.take j) R < R.length) (e : ms[j] = R[atG (ms.take j) R]) => atG_yes h e)
      have HN := Lib.hid (fun (h : atG (ms.take j) R < R.length) (e : ms[j] ≠ R[atG (ms.take j) R]) => atG_no h e)
      have HE := Lib.hid (fun (h : ¬ atG (ms.take j) R < R.length) => (atG_end h : atG (ms.take j ++ [ms[j]]) R = _))
      have HA := Lib.hid ((restG_drop (ms.take j) R).2)
      rw [← hTk.out] at HY HN HE
      clear hTk
      generalize ms[j] = x at *
      generalize hat : atG (ms.take j) R = at0 at *
      clear hat
      have c0 := fun n => (show (w2.drewN n).cell? ⟨g0, o0 + j * 8, none⟩ = some (.int .i64 x.kind) from c0)
      have c1 := fun n => (show (w2.drewN n).cell? ⟨g0, o0 + j * 8 + 1, none⟩ = some (.string (Str x.key)) from c1)
      have c2 := fun n => (show (w2.drewN n).cell? ⟨g0, o0 + j * 8 + 2, none⟩ = some (.string (Str x.val)) from c2)
      have c3 := fun n => (show (w2.drewN n).cell? ⟨g0, o0 + j * 8 + 3, none⟩ = some (.string (Str x.lo)) from c3)
      have c4 := fun n => (show (w2.drewN n).cell? ⟨g0, o0 + j * 8 + 4, none⟩ = some (.string (Str x.hi)) from c4)
      have c5 := fun n => (show (w2.drewN n).cell? ⟨g0, o0 + j * 8 + 5, none⟩ = some (.string (Str x.src)) from c5)
      have c6 := fun n => (show (w2.drewN n).cell? ⟨g0, o0 + j * 8 + 6, none⟩ = some (.string (Str x.dst)) from c6)
      have c7 := fun n => (show (w2.drewN n).cell? ⟨g0, o0 + j * 8 + 7, none⟩ = some (.int .i64 x.n) from c7)
      by_cases hla : at0 < R.length
      · obtain ⟨rfl, d0, d1, d2, d3, d4, d5, d6, d7⟩ := HC1.out at0 hla
        have hlaz : (at0 : Int) < (R.length : Int) := by omega
        replace HY := Lib.hid (HY.out hla)
        replace HN := Lib.hid (HN.out hla)
        clear HE
        generalize R[at0] = y at *
        have d0 := fun n => (show (w2.drewN n).cell? ⟨g1, o1 + at0 * 8, none⟩ = some (.int .i64 y.kind) from d0)
        have d1 := fun n => (show (w2.drewN n).cell? ⟨g1, o1 + at0 * 8 + 1, none⟩ = some (.string (Str y.key)) from d1)
        have d2 := fun n => (show (w2.drewN n).cell? ⟨g1, o1 + at0 * 8 + 2, none⟩ = some (.string (Str y.val)) from d2)
        have d3 := fun n => (show (w2.drewN n).cell? ⟨g1, o1 + at0 * 8 + 3, none⟩ = some (.string (Str y.lo)) from d3)
        have d4 := fun n => (show (w2.drewN n).cell? ⟨g1, o1 + at0 * 8 + 4, none⟩ = some (.string (Str y.hi)) from d4)
        have d5 := fun n => (show (w2.drewN n).cell? ⟨g1, o1 + at0 * 8 + 5, none⟩ = some (.string (Str y.src)) from d5)
        have d6 := fun n => (show (w2.drewN n).cell? ⟨g1, o1 + at0 * 8 + 6, none⟩ = some (.string (Str y.dst)) from d6)
        have d7 := fun n => (show (w2.drewN n).cell? ⟨g1, o1 + at0 * 8 + 7, none⟩ = some (.int .i64 y.n) from d7)
        have heq := fun wx => eql_msg x y wx
        have hgu := fun o p wx => guard_msg .eql o p (encM x) (encM y) wx
        have hdec : (decide ((at0 : Int) < (R.length : Int))) = true := by simpa using hlaz
        generalize hq : decide (x = y) = q at *
        cases q with
        | true =>
          have HY1 := Lib.hid (HY.out (by simpa using hq))
          clear HY HN hq
          go_wp2_with fail
          go_quiet (fail)
          go_wp2
          go_roundw
          case rel => exact ⟨j + 1, n + nq, by omega, by go_num, by rw [HY1.out]; go_num, rfl⟩
          case measure => simp [intOf]; omega
        | false =>
          have HN1 := Lib.hid (HN.out (by simpa using hq))
          clear HY HN hq
          go_wp2_with fail
          go_quiet (fail)
          go_wp2
          go_roundw
          case rel => exact ⟨j + 1, n + nq, by omega, by go_num, by rw [HN1.out], rfl⟩
          case measure => simp [intOf]; omega
      · have HE1 := Lib.hid (HE.out hla)
        have hdec : (decide ((at0 : Int) < (R.length : Int))) = false := by simp; omega
        clear HE HY HN
        go_wp2_with fail
        go_quiet (fail)
        go_wp2
        go_roundw
        case rel => exact ⟨j + 1, n + nq, by omega, by go_num, by rw [HE1.out], rfl⟩
        case measure => simp [intOf]; omega
    · obtain rfl : j = ms.length := by omega
      rw [List.take_length, atG_sub HSUB.out]
      by_cases hne : ms = []
      · have hgt : decide (0 < ms.length) = false := by rw [hne]; rfl
        clear HC0 HC1 HLAST hne
        go_wp2_with fail
        go_quiet (fail)
        have S3 : Hid (Sx w [] [(.slice p2 R.length cb, R), (.slice p1 ms.length ca, ms)] [] (w2.drewN (n + nq))) := Lib.hid (S2.out.below (below_drewN w2 (n + nq)))
        have hd2 : (w2.drewN n).drewN nq = w2.drewN (n + nq) := World.drewN_drewN _ _ _
        try rw [hd2]
        clear hd2
        generalize w2.drewN (n + nq) = w3 at *
        go_wp2_with fail
        refine (sx_reduce S3.out R R HAG.out (by simp) HOR.out (by omega)).mono ?_
        rintro e4 w4 ⟨p4, c4, rfl, hs4⟩
        have S4 := Lib.hid hs4
        clear hs4 S3
        go_wp2_with fail
        refine (sx_fsame S4.out R R (S4.out.m (.slice p4 R.length c4, R) (by simp)) (S4.out.m (.slice p2 R.length cb, R) (by simp))).mono ?_
        rintro e5 w5 ⟨rfl, hs5⟩
        have HB := Lib.hid hs5.g
        clear hs5 S4
        go_wp2
        go_ret
        exact ⟨ret_bool (by simp), HB.out⟩
      · obtain ⟨kr, km, h1, h2, hlast⟩ := HLAST.out hne
        have hgt : decide (0 < ms.length) = true := by simp; omega
        have hrne : ((R.length : Int) == 0) = false := by rw [beq_eq_false_iff_ne]; omega
        obtain ⟨rfl, c0, c1, c2, c3, c4, c5, c6, c7⟩ := HC0.out km (by omega)
        obtain ⟨rfl, d0, d1, d2, d3, d4, d5, d6, d7⟩ := HC1.out kr (by omega)
        rw [hlast] at d0 d1 d2 d3 d4 d5 d6 d7
        generalize ms[km] = x at *
        clear hlast HC0 HC1 HLAST hne
        have c0 := fun n => (show (w2.drewN n).cell? ⟨g0, o0 + km * 8, none⟩ = some (.int .i64 x.kind) from c0)
        have c1 := fun n => (show (w2.drewN n).cell? ⟨g0, o0 + km * 8 + 1, none⟩ = some (.string (Str x.key)) from c1)
        have c2 := fun n => (show (w2.drewN n).cell? ⟨g0, o0 + km * 8 + 2, none⟩ = some (.string (Str x.val)) from c2)
        have c3 := fun n => (show (w2.drewN n).cell? ⟨g0, o0 + km * 8 + 3, none⟩ = some (.string (Str x.lo)) from c3)
        have c4 := fun n => (show (w2.drewN n).cell? ⟨g0, o0 + km * 8 + 4, none⟩ = some (.string (Str x.hi)) from c4)
        have c5 := fun n => (show (w2.drewN n).cell? ⟨g0, o0 + km * 8 + 5, none⟩ = some (.string (Str x.src)) from c5)
        have c6 := fun n => (show (w2.drewN n).cell? ⟨g0, o0 + km * 8 + 6, none⟩ = some (.string (Str x.dst)) from c6)
        have c7 := fun n => (show (w2.drewN n).cell? ⟨g0, o0 + km * 8 + 7, none⟩ = some (.int .i64 x.n) from c7)
        have d0 := fun n => (show (w2.drewN n).cell? ⟨g1, o1 + kr * 8, none⟩ = some (.int .i64 x.kind) from d0)
        have d1 := fun n => (show (w2.drewN n).cell? ⟨g1, o1 + kr * 8 + 1, none⟩ = some (.string (Str x.key)) from d1)
        have d2 := fun n => (show (w2.drewN n).cell? ⟨g1, o1 + kr * 8 + 2, none⟩ = some (.string (Str x.val)) from d2)
        have d3 := fun n => (show (w2.drewN n).cell? ⟨g1, o1 + kr * 8 + 3, none⟩ = some (.string (Str x.lo)) from d3)
        have d4 := fun n => (show (w2.drewN n).cell? ⟨g1, o1 + kr * 8 + 4, none⟩ = some (.string (Str x.hi)) from d4)
        have d5 := fun n => (show (w2.drewN n).cell? ⟨g1, o1 + kr * 8 + 5, none⟩ = some (.string (Str x.src)) from d5)
        have d6 := fun n => (show (w2.drewN n).cell? ⟨g1, o1 + kr * 8 + 6, none⟩ = some (.string (Str x.dst)) from d6)
        have d7 := fun n => (show (w2.drewN n).cell? ⟨g1, o1 + kr * 8 + 7, none⟩ = some (.int .i64 x.n) from d7)
        have hx1 : (R.length : Int) - 1 = (kr : Int) := by omega
        have hx2 : (ms.length : Int) - 1 = (km : Int) := by omega
        have hb1 : (kr : Int) < (R.length : Int) := by omega
        have hb2 : (km : Int) < (ms.length : Int) := by omega
        have hk0' : (0 : Int) ≤ (kr : Int) := by omega
        have hk1' : (0 : Int) ≤ (km : Int) := by omega
        have H1' := Lib.hid h1
        have H2' := Lib.hid h2
        clear h1 h2
        have heq := fun wx => (neq_msg x x wx).trans (by rw [decide_eq_true (rfl : x = x)]; rfl : _ = Result.ok (Value.bool false) wx)
        have hgu := fun o p wx => guard_msg .neq o p (encM x) (encM x) wx
        go_wp2_with fail
        go_quiet (fail)
        clear heq hgu c0 c1 c2 c3 c4 c5 c6 c7 d0 d1 d2 d3 d4 d5 d6 d7 hx1 hx2 hb1 hb2 hk0' hk1' hrne hgt
        have S3 : Hid (Sx w [] [(.slice (some ⟨g1, o1, none⟩) R.length cb, R), (.slice (some ⟨g0, o0, none⟩) ms.length ca, ms)] [] (w2.drewN (n + nq))) := Lib.hid (S2.out.below (below_drewN w2 (n + nq)))
        have hd2 : (w2.drewN n).drewN nq = w2.drewN (n + nq) := World.drewN_drewN _ _ _
        try rw [hd2]
        clear hd2
        generalize w2.drewN (n + nq) = w3 at *
        go_wp2_with fail
        refine (sx_reduce S3.out R R HAG.out (by simp) HOR.out (by omega)).mono ?_
        rintro e4 w4 ⟨p4, c4, rfl, hs4⟩
        have S4 := Lib.hid hs4
        clear hs4 S3
        go_wp2_with fail
        refine (sx_fsame S4.out R R (S4.out.m (.slice p4 R.length c4, R) (by simp)) (S4.out.m (.slice (some ⟨g1, o1, none⟩) R.length cb, R) (by simp))).mono ?_
        rintro e5 w5 ⟨rfl, hs5⟩
        have HB := Lib.hid hs5.g
        clear hs5 S4
        go_wp2
        go_ret
        exact ⟨ret_bool (by simp), HB.out⟩

end Go.Proofs.YtpppkjcbheooeaaGreat
