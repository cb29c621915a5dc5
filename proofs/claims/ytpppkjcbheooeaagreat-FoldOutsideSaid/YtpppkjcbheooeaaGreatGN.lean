/-
  The walk of the law FoldOutside.
-/
import Derived.Test.YtpppkjcbheooeaaGreatGJ
import Derived.Test.YtpppkjcbheooeaaGreatGH
namespace Go.Proofs.YtpppkjcbheooeaaGreat
open Go.RowKit Go.Sort
set_option linter.unusedVariables false

theorem writes_len (m : Ms) : (writesS m).length ≤ 2 := by
  unfold writesS; repeat' split
  all_goals simp
theorem flat_writes (l : List Ms) : (l.flatMap writesS).length ≤ 2 * l.length := by
  induction l with
  | nil => simp
  | cons m l ih => have := writes_len m; rw [List.flatMap_cons, List.length_append, List.length_cons]; omega
theorem flatW_take (l : List Ms) (k : Nat) (h : k < l.length) : (l.take (k + 1)).flatMap writesS = (l.take k).flatMap writesS ++ writesS l[k] := by
  rw [List.take_succ_eq_append_getElem h, List.flatMap_append]; simp
theorem isSpans_form {w : World} {v : Value} {l : List Sp} (h : IsSpans w v l) : ∃ p c, v = .slice p l.length c := by obtain ⟨p, c, e, -⟩ := h; exact ⟨p, c, e⟩

/-- More spans onto a row, with what alone is written. -/
theorem append_spansG {w : World} {ops : Array Oper} {rest : List Oper} {o : Oper} {a : Act} {Q : Exit → Act → World → Prop} (hgd : o.guard = none) (s x : Operand)
    (ho : o.op = .call { callee := .builtin .append, args := #[s, x], argTypes := #[44, 44] }) (base : Nat) (v : Value) (l : List Sp) (hs : a.eval s = v) (hown : w.ownsRow base 23 2 v l.length (l.flatMap encS))
    (u : Value) (m : List Sp) (hx : a.eval x = u) (hp : IsSpans w u m) (hne : m ≠ []) (hl : l.length + m.length ≤ 100000) (hbase : base ≤ w.heap.size)
    (h : ∀ v' w', w'.ownsRow base 23 2 v' (l ++ m).length ((l ++ m).flatMap encS) → w.grownBy w' v.ownBlock → wpList Tryz.prog ops Q rest (a.put o.dst v') w') : wpList Tryz.prog ops Q (o :: rest) a w := by
  obtain ⟨i0, hi, hz0, hz1, hz2⟩ := info_parts infoS
  obtain ⟨p, cap, rfl, hlc, hcm, hpp⟩ := hp
  obtain ⟨b, off, rfl, hlt, hc⟩ := hpp hne
  have hcells : ∀ j u, (m.flatMap encS)[j]? = some u → w.cell? ((⟨b, off, none⟩ : Addr).add j) = some u := cells_at fun j u hj => by
    have hj1 : j < m.length * 2 := by rw [← flatS_len]; exact (List.getElem?_eq_some_iff.1 hj).1
    have hi2 : j / 2 < m.length := by omega
    have g := flatS_get m (j / 2) hi2
    have c := hc (j / 2) hi2
    have hcase : j = j / 2 * 2 ∨ j = j / 2 * 2 + 1 := by omega
    rcases hcase with h | h
    · rw [h] at hj ⊢
      rw [g.1] at hj
      rw [← Option.some.inj hj]; exact c.1
    · rw [h] at hj ⊢
      rw [g.2] at hj
      rw [← Option.some.inj hj]; exact c.2
  refine wpList_append_own _ hgd s x 44 ho base 23 i0 (.agg #[.string ⟨#[]⟩, .string ⟨#[]⟩]) 2 32 Tryz.underlying44 hi hz0 hz1 hz2 rfl (by decide) v l.length _ hs hown ⟨b, off, none⟩ m.length cap (m.flatMap encS) hx (flatS_len m) hcells (flatS_one m) (by unfold maxLen; omega) (by omega) hbase ?_
  intro v' w' h2 h3 _
  refine h v' w' ?_ h3
  rw [List.length_append, List.flatMap_append]; exact h2
theorem writes_ne {m : Ms} (h : OneToSix m) : writesS m ≠ [] := by
  rcases h.cases with k | k | k | k | k | k <;> simp [writesS, k]

set_option maxRecDepth 100000 in
set_option maxHeartbeats 4000000 in
theorem foldOutside_walk (w : World) (v0 : Value) (x0 : List Rw) (h0 : T4.IsRaws w v0 x0) (v1 : Value) (x1 : List R6) (h1 : IsR6s w v1 x1) (v2 : Value) (x2 : List R6) (h2 : IsR6s w v2 x2) :
    Calls Tryz.prog 7 #[v0, v1, v2] w fun e w' => e = .returned (.bool true) ∧ Below w.heap.size w w' := by
  have H0 := Lib.hid h0
  have H1 := Lib.hid h1
  have H2 := Lib.hid h2
  clear h0 h1 h2
  obtain ⟨T, eT⟩ : ∃ r, r = T4.madeS x0 := ⟨_, rfl⟩
  obtain ⟨ms, ems⟩ : ∃ r, r = listS x1 14 := ⟨_, rfl⟩
  obtain ⟨mo, emo⟩ : ∃ r, r = listS x2 4 := ⟨_, rfl⟩
  obtain ⟨dd, edd⟩ : ∃ r, r = mo.flatMap writesS := ⟨_, rfl⟩
  obtain ⟨R, eR⟩ : ∃ r, r = (liveS ms dd).1 := ⟨_, rfl⟩
  obtain ⟨E, eE⟩ : ∃ r, r = (liveS ms dd).2 := ⟨_, rfl⟩
  obtain ⟨A, eA⟩ : ∃ r, r = allS ms T := ⟨_, rfl⟩
  obtain ⟨B, eB⟩ : ∃ r, r = allS R T := ⟨_, rfl⟩
  obtain ⟨C, eC⟩ : ∃ r, r = withoutS dd A := ⟨_, rfl⟩
  obtain ⟨D, eD⟩ : ∃ r, r = withoutS dd B := ⟨_, rfl⟩
  have hst : Srt T := by rw [eT]; exact T4.srt_made _
  have hall : ∀ m ∈ ms, Ok m ∧ OneToSix m ∧ Few m := by rw [ems]; exact listS_all _ _
  have hmo : ∀ m ∈ mo, Ok m ∧ OneToSix m ∧ Few m := by rw [emo]; exact listS_all _ _
  have hml : ms.length ≤ 14 := by rw [ems]; exact listS_len _ _
  have hol : mo.length ≤ 4 := by rw [emo]; exact listS_len _ _
  have hdl : dd.length ≤ 8 := by rw [edd]; have := flat_writes mo; omega
  have hsub : R.Sublist ms := by rw [eR]; unfold liveS; have := foldB_sub ms.reverse (normS dd); rw [List.reverse_reverse] at this; exact this
  have hrl : R.length ≤ ms.length := hsub.length_le
  have hT1 : T.length ≤ 40 := by rw [eT]; exact T4.made_len _
  have hT2 : ∀ x ∈ T, x.1.length ≤ 100 := fun x hx => Nat.le_trans (T4.made_small x (by rw [← eT]; exact hx)).1 (by omega)
  have hok1 := okAll_many ms hst (by omega) hT2 (fun m hm => (hall m hm).2.2) (by omega)
  have hok2 := okAll_many R hst (by omega) hT2 (fun m hm => (hall m (hsub.subset hm)).2.2) (by omega)
  have hA1 : A.length ≤ 100000000 := by rw [eA]; exact (okAll_end hok1).1
  have hB1 : B.length ≤ 100000000 := by rw [eB]; exact (okAll_end hok2).1
  have OK1 := Lib.hid hok1
  have OK2 := Lib.hid hok2
  have HEQ : Hid (C = D) := Lib.hid (by rw [eC, eD, eA, eB, eR, live_eff ms dd hst])
  have HST := Lib.hid hst
  have HOK := Lib.hid (fun m hm => (hall m hm).1)
  have HOR := Lib.hid (fun m hm => (hall m (hsub.subset hm)).1)
  have HMO := Lib.hid hmo
  have ET := Lib.hid eT
  have Ems := Lib.hid ems
  have Emo := Lib.hid emo
  have Edd := Lib.hid edd
  have ER := Lib.hid eR
  have EE := Lib.hid eE
  have EA := Lib.hid eA
  have EB := Lib.hid eB
  have EC := Lib.hid eC
  have ED := Lib.hid eD
  clear hst hall hmo hsub hT2 hok1 hok2 eT ems emo edd eR eE eA eB eC eD
  go_enter Tryz.func7, Tryz.ntmps7
  go_wp2_with fail
  refine (Fx.fsanity_w w).mono ?_
  rintro e0 w0 ⟨rfl, hb0⟩
  have S0 := Lib.hid (Sx.start hb0)
  clear hb0
  go_wp2_with fail
  refine (sx_made S0.out (H0.out.below S0.out.g) T ET.out).mono ?_
  rintro e1 w1 ⟨p1, c1, rfl, hs1⟩
  have S1 := Lib.hid hs1
  clear hs1 S0
  go_wp2_with fail
  refine (sx_list S1.out (H1.out.below S1.out.g) 14 (by omega) ms Ems.out).mono ?_
  rintro e2 w2 ⟨p2, c2, rfl, hs2⟩
  have S2 := Lib.hid hs2
  clear hs2 S1
  go_wp2_with fail
  refine (list_w v2 x2 4 _ (H2.out.below (S2.out.alloc _).g) (by omega)).mono ?_
  rintro e3 w3 ⟨v3, rfl, ho3, hb3⟩
  rw [← Emo.out] at ho3
  have hb23 : Below w2.heap.size w2 w3 := (below_box _).trans (hb3.mono (by simp))
  have HB23 := Lib.hid hb23
  have HD3 := Lib.hid (owns_below (own_emptyS w2 w2.heap.size (Nat.le_refl _)) hb3)
  have HM3 : Hid (OwnM w3 w2.heap.size v3 mo) := Lib.hid (owns_lower ho3 (by simp))
  clear hb3 ho3 hb23
  obtain ⟨pm, cm, hv3, hm31, hm32⟩ := own_formM HM3.out
  subst hv3
  unfold maxLen at hm32
  go_wp2
  go_loopw [10, 12] (fun d i wr => ∃ j : Nat, j ≤ mo.length ∧ i = .int .i64 j ∧ wr.ownsRow w2.heap.size 23 2 d ((mo.take j).flatMap writesS).length (((mo.take j).flatMap writesS).flatMap encS) ∧ OwnM wr w2.heap.size (.slice pm mo.length cm) mo ∧ Below w2.heap.size w2 wr) (fun _ i _ => mo.length - (intOf i).toNat)
  case atStart => exact ⟨0, Nat.zero_le _, rfl, HD3.out, HM3.out, HB23.out⟩
  case round =>
    obtain ⟨j, hj, rfl, hown, hom, hbel⟩ := hrel
    clear HD3 HM3 HB23
    have Hown := Lib.hid hown
    have Hom := Lib.hid hom
    have Hbel := Lib.hid hbel
    have hsz := hbel.size
    clear hown hom hbel
    by_cases hlt : j < mo.length
    · obtain ⟨b, off, cap, a, he, -, -, -, hcc⟩ := Hom.out.msgs.form
      obtain ⟨rfl, c0, c1, c2, c3, c4, c5, c6, c7⟩ := hcc j hlt
      cases he
      clear hcc
      have hltz : (j : Int) < (mo.length : Int) := by omega
      obtain ⟨hok, hkd, -⟩ := HMO.out mo[j] (List.getElem_mem hlt)
      have Htk := Lib.hid (flatW_take mo j hlt)
      have hlen : ((mo.take j).flatMap writesS).length ≤ 8 := by
        have h1 := flat_writes (mo.take j)
        have h2 : (mo.take j).length ≤ j := List.length_take_le _ _
        omega
      have hwl := writes_len mo[j]
      have HW := Lib.hid (fun wx => rwrites_w mo[j] wx hok.1 hkd)
      have HNE := Lib.hid (writes_ne hkd)
      clear hok hkd
      generalize mo[j] = m at *
      generalize (mo.take j).flatMap writesS = left at *
      generalize writesS m = wm at *
      go_wp2_with fail
      refine (HW.out _).mono ?_
      rintro e4 w4 ⟨v4, rfl, hsp, hg⟩
      have hb4 := hg.below (B := wr.heap.size) (Nat.le_refl _)
      have Hown4 := Lib.hid (owns_below Hown.out hb4)
      have Hom4 := Lib.hid (Hom.out.below hb4)
      have Hbel4 := Lib.hid (Hbel.out.trans (hb4.mono hsz))
      have hs4 := Hbel4.out.size
      have Hsp := Lib.hid hsp
      clear hsp hg hb4 c0 c1 c2 c3 c4 c5 c6 c7
      go_wp2_with (at_builtin; refine append_spansG rfl _ _ rfl w2.heap.size _ left rfl Hown4.out _ wm rfl Hsp.out HNE.out (by omega) hs4 ?_; intro v5 w5 hown5 hg5)
      have Hown5 := Lib.hid hown5
      have Hom5 : Hid (OwnM w5 w2.heap.size (.slice (some ⟨b, off, none⟩) mo.length cm) mo) := Lib.hid (Hom4.out.kept hg5 (own_apart (by decide) Hom4.out Hown4.out))
      have Hbel5 := Lib.hid (Hbel4.out.trans (below_row Hown4.out hg5 (Nat.le_refl _) hs4))
      clear hown5 hg5
      go_wp2
      go_roundw
      case rel => exact ⟨j + 1, by omega, by go_num, by rw [Htk.out]; exact Hown5.out, Hom5.out, Hbel5.out⟩
      case measure => simp [intOf]; omega
    · obtain rfl : j = mo.length := by omega
      rw [List.take_length, ← Edd.out] at Hown
      have S3 := Lib.hid ((S2.out.below Hbel.out).addS (IsSpans.owned Hown.out))
      clear S2 Hom Hbel
      obtain ⟨pd, cd, rfl, -⟩ := own_form Hown.out
      clear Hown
      go_wp2_with fail
      refine (sx_live S3.out ms dd R E ER.out EE.out (by simp) (S3.out.s (.slice pd dd.length cd, dd) (by simp)) HOK.out (by omega) (by omega)).mono ?_
      rintro e4 w4 ⟨p4, c4, q4, k4, rfl, hs4⟩
      have S4 := Lib.hid hs4
      clear hs4 S3
      go_wp2_with fail
      refine (sx_all S4.out T ms A EA.out (by simp) (by simp) HST.out HOK.out OK1.out).mono ?_
      rintro e5 w5 ⟨p5, c5, rfl, hs5⟩
      have S5 := Lib.hid hs5
      clear hs5 S4
      go_wp2_with fail
      refine (sx_outside S5.out A dd C EC.out (by simp) (by simp) (by omega)).mono ?_
      rintro e6 w6 ⟨p6, c6, rfl, hs6⟩
      have S6 := Lib.hid hs6
      clear hs6 S5
      go_wp2_with fail
      refine (sx_all S6.out T R B EB.out (by simp) (by simp) HST.out HOR.out OK2.out).mono ?_
      rintro e7 w7 ⟨p7, c7, rfl, hs7⟩
      have S7 := Lib.hid hs7
      clear hs7 S6
      go_wp2_with fail
      refine (sx_outside S7.out B dd D ED.out (by simp) (by simp) (by omega)).mono ?_
      rintro e8 w8 ⟨p8, c8, rfl, hs8⟩
      have S8 := Lib.hid hs8
      clear hs8 S7
      go_wp2_with fail
      refine (sx_same S8.out C D HEQ.out (by simp) (by simp)).mono ?_
      rintro e9 w9 ⟨rfl, hs9⟩
      have HB := Lib.hid hs9.g
      clear hs9 S8
      go_wp2
      go_ret
      exact ⟨rfl, HB.out⟩

end Go.Proofs.YtpppkjcbheooeaaGreat
