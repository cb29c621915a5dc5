/-
  The walk of the law TableValid.
-/
import Derived.Test.YtbbiobhffelaaaaTU
namespace Go.Proofs.Ytbbiobhffelaaaa
open Go.RowKit Go.Sort
set_option linter.unusedVariables false

theorem flatP_set (T : List Pr) (i : Nat) (h : i < T.length) (s : Pr) : (((T.flatMap encP).set (i * 3) (.string (Str s.1))).set (i * 3 + 1) (.string (Str s.2.1))).set (i * 3 + 2) (.int .i64 s.2.2) = (T.set i s).flatMap encP := by
  induction T generalizing i with
  | nil => simp at h
  | cons t r ih =>
    have e : ∀ (t : Pr) r, (t :: r).flatMap encP = .string (Str t.1) :: .string (Str t.2.1) :: .int .i64 t.2.2 :: r.flatMap encP := fun t r => rfl
    cases i with
    | zero => rw [List.set_cons_zero, e, e]; rfl
    | succ i =>
      rw [List.set_cons_succ, e, e]
      have ih' := ih i (by simpa using h)
      have h2 : (i + 1) * 3 = i * 3 + 1 + 1 + 1 := by omega
      rw [h2]
      simp only [List.set_cons_succ]
      rw [← ih']
theorem own_setP {w : World} {base g n cap : Nat} {T : List Pr} (h : w.ownsRow base 30 3 (.slice (some ⟨g, 0, none⟩) n cap) n (T.flatMap encP)) (i : Nat) (s : Pr) (hi : i < T.length) (hb : base ≤ w.heap.size) :
    (((w.setCell ⟨g, i * 3, none⟩ (.string (Str s.1))).setCell ⟨g, i * 3 + 1, none⟩ (.string (Str s.2.1))).setCell ⟨g, i * 3 + 2, none⟩ (.int .i64 s.2.2)).ownsRow base 30 3 (.slice (some ⟨g, 0, none⟩) n cap) n ((T.set i s).flatMap encP) ∧
    Below base w (((w.setCell ⟨g, i * 3, none⟩ (.string (Str s.1))).setCell ⟨g, i * 3 + 1, none⟩ (.string (Str s.2.1))).setCell ⟨g, i * 3 + 2, none⟩ (.int .i64 s.2.2)) := by
  have hg := h.lt g rfl
  have h1 := h.stored (i * 3) (.string (Str s.1))
  have h2 := h1.1.stored (i * 3 + 1) (.string (Str s.2.1))
  have h3 := h2.1.stored (i * 3 + 2) (.int .i64 s.2.2)
  rw [flatP_set T i hi] at h3
  exact ⟨h3.1, (((Below.refl _ _).setCell hg.1 _).setCell hg.1 _).setCell hg.1 _⟩
theorem st_valid {w wx : World} {L : List (Value × List Pr)} (h : St w L wx) {va : Value} (a : List Pr) (ha : (va, a) ∈ L) (la : a.length ≤ 20000) : Calls Try.prog 30 #[va] wx fun e w' => e = .returned (.bool (validB a)) ∧ St w L w' :=
  (valid_w va a wx (h.at ha) (by omega)).mono fun _ _ ⟨h1, _, h2⟩ => ⟨h1, by rw [h2]; exact h.below (below_drewN _ _)⟩

theorem small_set {T : List Pr} {x : Pr} (h : ∀ z ∈ T, z.1.length ≤ maxLen ∧ z.2.1.length ≤ maxLen) (hx : x.1.length ≤ maxLen ∧ x.2.1.length ≤ maxLen) (i : Nat) : ∀ z ∈ T.set i x, z.1.length ≤ maxLen ∧ z.2.1.length ≤ maxLen := by
  intro z hz
  rcases List.mem_or_eq_of_mem_set hz with h1 | rfl
  · exact h z h1
  · exact hx

set_option maxRecDepth 100000 in
set_option maxHeartbeats 8000000 in
theorem tableValid_walk0 (hsan : SanityW) (w : World) (v0 : Value) (raw : List Pr) (h0 : IsPairs w v0 raw) (v1 : Value) (l : List Rw) (h1 : IsRaws w v1 l) (v2 : Value) (x : Rw) (h2 : IsU8x3 w v2 x) :
    Calls Try.prog 4 #[v0, v1, v2] w fun e w' => e = .returned (.bool true) ∧ Below w.heap.size w w' := by
  obtain ⟨a, b, c⟩ := x
  obtain ⟨rfl, ha, hb, hc⟩ := h2
  simp only at ha hb hc ⊢
  obtain ⟨-, -, cr, pr, rfl, hlr, hcr, -⟩ := h0.form
  unfold maxLen at hcr
  have H0 := Lib.hid h0
  have H1 := Lib.hid h1
  have Hsan := Lib.hid hsan
  clear h0 h1 hsan
  by_cases hbig : 30 < raw.length
  · have hz : (30 : Int) < (raw.length : Int) := by omega
    clear hbig
    go_enter Try.func4, Try.ntmps4
    go_wp2_with fail
    refine (Hsan.out _).mono ?_
    rintro e w1 ⟨rfl, hb1⟩
    have Hb1 := Lib.hid ((below_box (w := w) _).trans (hb1.mono (by simp)))
    clear hb1
    go_wp2
    go_ret
    exact ⟨rfl, Hb1.out⟩
  · have hz : (raw.length : Int) ≤ 30 := by omega
    have hr30 : raw.length ≤ 30 := by omega
    have hzd : decide ((30 : Int) < (raw.length : Int)) = false := by simp; omega
    clear hbig
    have sT := Lib.hid (srt_made l)
    have nT := made_len l
    have Hv := Lib.hid ((validB_iff _).2 sT.out)
    go_enter Try.func4, Try.ntmps4
    go_wp2_with fail
    refine (Hsan.out _).mono ?_
    rintro e w1 ⟨rfl, hb1⟩
    have HS := Lib.hid (St.add (St.start ((below_box (w := w) _).trans (hb1.mono (by simp)))) (H0.out.below ((below_box (w := w) _).trans (hb1.mono (by simp)))))
    have HB1 := Lib.hid (Blk.below (Blk.new w 44 #[.int .u8 a, .int .u8 b, .int .u8 c]) hb1 (by simp))
    clear hb1 Hsan
    go_wp2_with fail
    refine (made_w _ l w1 (H1.out.below HS.out.g)).mono ?_
    rintro e w2 ⟨vt, rfl, -, hpt, hb2⟩
    replace HS := Lib.hid ((HS.out.below hb2).add hpt)
    replace HB1 := Lib.hid (HB1.out.below hb2 HB1.out.lt)
    clear hb2 hpt
    generalize madeS l = T at *
    obtain ⟨-, -, ct, pt, rfl, hlt1, hct, -⟩ := (HS.out.at (v := vt) (l := T) (by simp)).form
    unfold maxLen at hct
    rcases Nat.eq_zero_or_pos T.length with hT | hT
    · have hTz : (T.length : Int) ≤ 0 := by omega
      clear hT
      have hOl : T.length ≤ 20000 := by omega
      go_upto_region 11 with (at_builtin; refine append_pairs rfl _ _ rfl w2.heap.size _ [] rfl (own_empty w2 w2.heap.size (Nat.le_refl _)) _ T rfl ((HS.out.at (v := .slice pt T.length ct) (l := T) (by simp)).below (below_box _)) (by simp; omega) (by simp) ?_; intro vo w3 hown hbel; have hb3 : Below w2.heap.size w2 w3 := (below_box _).trans hbel; have Hown := Lib.hid (show w3.ownsRow w2.heap.size 30 3 vo T.length (T.flatMap encP) by simpa using hown); have HS3 := Lib.hid (HS.out.below hb3); have hltb := HB1.out.lt; have hs23 := hb3.size; have HB3 := Lib.hid (HB1.out.below hb3 HB1.out.lt); have Hb23 := Lib.hid hb3; clear hown hbel hb3)
      have hpo := IsPairs.owned Hown.out (HS3.out.at (v := .slice pt T.length ct) (l := T) (by simp)).small
      have HSe := HS3
      obtain ⟨-, -, co, po, rfl, -⟩ := hpo.form
      have HSf := Lib.hid (HSe.out.add hpo)
      clear hpo
      obtain ⟨rO, hvo⟩ : ∃ r, validB T = r := ⟨_, rfl⟩
      obtain ⟨rR, hvr⟩ : ∃ r, validB raw = r := ⟨_, rfl⟩
      have HvO := Lib.hid hvo
      have HvR := Lib.hid hvr
      clear hvo hvr
      go_wp2_with fail
      refine (st_valid HSf.out T (by simp) (by omega)).mono ?_
      rw [Hv.out]
      rintro e wa ⟨rfl, hst⟩
      replace HSf := Lib.hid hst
      clear hst
      go_wp2_with fail
      refine (st_valid HSf.out T (by simp) hOl).mono ?_
      rw [HvO.out]
      rintro e wb ⟨rfl, hst⟩
      replace HSf := Lib.hid hst
      clear hst
      go_wp2_with fail
      refine (st_rvalid HSf.out T (by simp) hOl).mono ?_
      rw [HvO.out]
      rintro e wd ⟨rfl, hst⟩
      replace HSf := Lib.hid hst
      clear hst
      go_wp2_with fail
      refine (st_valid HSf.out raw (by simp) (by omega)).mono ?_
      rw [HvR.out]
      rintro e we ⟨rfl, hst⟩
      replace HSf := Lib.hid hst
      clear hst
      go_wp2_with fail
      refine (st_rvalid HSf.out raw (by simp) (by omega)).mono ?_
      rw [HvR.out]
      rintro e wf ⟨rfl, hst⟩
      have Hg := Lib.hid hst.g
      clear hst
      go_wp2
      go_ret
      exact ⟨rfl, Hg.out⟩
    · have hTz : (0 : Int) < (T.length : Int) := by omega
      have Hi := Lib.hid (Nat.mod_lt a hT)
      have Hk := Lib.hid (Nat.mod_lt b hT)
      have hi1 : (a : Int) % (T.length : Int) = ((a % T.length : Nat) : Int) := by simp
      have hk1 : (b : Int) % (T.length : Int) = ((b % T.length : Nat) : Int) := by simp
      have hi2 : (a : Int).tmod (T.length : Int) = ((a % T.length : Nat) : Int) := by rw [Int.tmod_eq_emod_of_nonneg (by omega)]; exact hi1
      have hk2 : (b : Int).tmod (T.length : Int) = ((b % T.length : Nat) : Int) := by rw [Int.tmod_eq_emod_of_nonneg (by omega)]; exact hk1
      have hil := Hi.out
      have hkl := Hk.out
      generalize a % T.length = i at *
      generalize b % T.length = k at *
      have hwa : IntKind.i64.wrap (a : Int) = (a : Int) := IntWalk.i64_in _ (by omega)
      have hwb : IntKind.i64.wrap (b : Int) = (b : Int) := IntWalk.i64_in _ (by omega)
      have hwi : IntKind.i64.wrap (i : Int) = (i : Int) := IntWalk.i64_in _ (by omega)
      have hwk : IntKind.i64.wrap (k : Int) = (k : Int) := IntWalk.i64_in _ (by omega)
      have hilz : (i : Int) < (T.length : Int) := by omega
      have hklz : (k : Int) < (T.length : Int) := by omega
      have haz : (a : Int) < 256 := by omega
      have hbz : (b : Int) < 256 := by omega
      have hcz : (c : Int) < 256 := by omega
      have mixed := mixedA
      go_upto_region 7 with (at_builtin; refine append_pairs rfl _ _ rfl w2.heap.size _ [] rfl (own_empty w2 w2.heap.size (Nat.le_refl _)) _ T rfl ((HS.out.at (v := .slice pt T.length ct) (l := T) (by simp)).below (below_box _)) (by simp; omega) (by simp) ?_; intro vo w3 hown hbel; have hb3 : Below w2.heap.size w2 w3 := (below_box _).trans hbel; have Hown := Lib.hid (show w3.ownsRow w2.heap.size 30 3 vo T.length (T.flatMap encP) by simpa using hown); have HS3 := Lib.hid (HS.out.below hb3); have hltb := HB1.out.lt; have hs23 := hb3.size; have HB3 := Lib.hid (HB1.out.below hb3 HB1.out.lt); have Hb23 := Lib.hid hb3; clear hown hbel hb3)
      obtain ⟨po, co, rfl, hlo, hco, hpo⟩ := own_formP Hown.out
      obtain ⟨g, rfl⟩ := hpo hT
      unfold maxLen at hco
      have x0 := HB3.out.c0 0 _ rfl
      have x1 := HB3.out.c0 1 _ rfl
      have x2 := HB3.out.c0 2 _ rfl
      have x0 := fun n => (drewN_cell w3 n _).trans x0
      have x1 := fun n => (drewN_cell w3 n _).trans x1
      go_quiet (fail)
      clear x0 x1
      have Hown4 := Lib.hid (show (w3.drewN nq).ownsRow w2.heap.size 30 3 (.slice (some ⟨g, 0, none⟩) T.length co) T.length (T.flatMap encP) from owns_below Hown.out (below_drewN _ _))
      have HS4 := Lib.hid (HS3.out.below (below_drewN w3 nq))
      have HB4 := Lib.hid (HB3.out.below (below_drewN w3 nq) HB3.out.lt)
      have hs4 : w2.heap.size ≤ (w3.drewN nq).heap.size := hs23
      have hltb4 := HB4.out.lt
      have hb34 : Below w2.heap.size w3 (w3.drewN nq) := below_drewN w3 nq
      clear Hown HS3 HB3 hs23 x2
      generalize w3.drewN nq = w4 at *
      have Hb24 := Lib.hid (Hb23.out.trans hb34)
      obtain ⟨bt, ot, ct', pt', hvt, -, -, hppt, hcct⟩ := (HS.out.at (v := .slice pt T.length ct) (l := T) (by simp)).form
      injection hvt with hv1 hv2 hv3
      subst hv1 hv3
      clear hv2
      obtain ⟨rfl, t0, t1, t2⟩ := hcct k hkl
      obtain ⟨-, u0, u1, u2⟩ := hcct i hil
      have hgt := cell_lt t0
      have t0 := (Hb24.out.cell (p := ⟨bt, ot + k * 3, none⟩) hgt).trans t0
      have t1 := (Hb24.out.cell (p := ⟨bt, ot + k * 3 + 1, none⟩) hgt).trans t1
      have t2 := (Hb24.out.cell (p := ⟨bt, ot + k * 3 + 2, none⟩) hgt).trans t2
      obtain ⟨o0, o1, o2⟩ := own_cellsP Hown4.out i hil
      have hgg := Hown4.out.lt g rfl
      have hg2 : w2.heap.size ≤ g := hgg.1
      have f0 := Hown4.out.frozenAt (i * 3)
      have f1 := Hown4.out.frozenAt (i * 3 + 1)
      have f2 := Hown4.out.frozenAt (i * 3 + 2)
      have hTs := (HS.out.at (v := .slice (some ⟨bt, ot, none⟩) T.length ct) (l := T) (by simp)).small
      have hxs := Lib.hid (hTs T[k] (List.getElem_mem hkl))
      have hys := Lib.hid (hTs T[i] (List.getElem_mem hil))
      have HTs := Lib.hid hTs
      have hset := own_setP Hown4.out i T[k] hil hs4
      clear hppt hcct hTs
      generalize T[k] = x at *
      generalize T[i] = y at *
      obtain ⟨xk, xv, xt⟩ := x
      obtain ⟨yk, yv, yt⟩ := y
      simp only at t0 t1 t2 u0 u1 u2 o0 o1 o2 hset
      have Hset := Lib.hid hset
      have hltw2 := hltb
      have hbne : w.heap.size ≠ g := by omega
      have hbne' : ¬ g = w.heap.size := by omega
      have htne : bt ≠ g := by omega
      clear hset
      go_upto_region 9 with fail
      have hb25 := Hb24.out.trans Hset.out.2
      have Hown5 := Lib.hid Hset.out.1
      have HB5 := Lib.hid (HB4.out.below Hset.out.2 hltw2)
      clear t0 t1 t2 o0 o1 o2 f0 f1 f2 Hset Hown4 HB4 HS4
      generalize ((w4.setCell ⟨g, i * 3, none⟩ (.string (Str xk))).setCell ⟨g, i * 3 + 1, none⟩ (.string (Str xv))).setCell ⟨g, i * 3 + 2, none⟩ (.int .i64 xt) = w5 at *
      have x2 := HB5.out.c0 2 _ rfl
      have hs5 := hb25.size
      have Hb25 := Lib.hid hb25
      have hO1 : (T.set i (xk, xv, xt)).length = T.length := List.length_set
      have hs1 := Lib.hid (small_set HTs.out hxs.out i)
      by_cases hc2 : c % 2 = 0
      · have hcz2 : (c : Int) % 2 = 0 := by omega
        have hct2 : (c : Int).tmod 2 = 0 := by rw [Int.tmod_eq_emod_of_nonneg (by omega)]; exact hcz2
        clear hc2
        have hkl1 : k < (T.set i (xk, xv, xt)).length := by omega
        obtain ⟨o0, o1, o2⟩ := own_cellsP Hown5.out k hkl1
        have f0 := Hown5.out.frozenAt (k * 3)
        have f1 := Hown5.out.frozenAt (k * 3 + 1)
        have f2 := Hown5.out.frozenAt (k * 3 + 2)
        have u0 := (hb25.cell (p := ⟨bt, ot + i * 3, none⟩) hgt).trans u0
        have u1 := (hb25.cell (p := ⟨bt, ot + i * 3 + 1, none⟩) hgt).trans u1
        have u2 := (hb25.cell (p := ⟨bt, ot + i * 3 + 2, none⟩) hgt).trans u2
        have hset := own_setP Hown5.out k (yk, yv, yt) hkl1 hs5
        have Hset := Lib.hid hset
        have hs2 := Lib.hid (small_set hs1.out hys.out k)
        have hO2 : ((T.set i (xk, xv, xt)).set k (yk, yv, yt)).length = T.length := by rw [List.length_set, List.length_set]
        clear hset hb25
        generalize (T.set i (xk, xv, xt))[k] = z at *
        go_upto_region 11 with fail
        have hb26 := Hb25.out.trans Hset.out.2
        have Hown6 := Lib.hid Hset.out.1
        clear u0 u1 u2 o0 o1 o2 f0 f1 f2 Hset
        generalize ((w5.setCell ⟨g, k * 3, none⟩ (.string (Str yk))).setCell ⟨g, k * 3 + 1, none⟩ (.string (Str yv))).setCell ⟨g, k * 3 + 2, none⟩ (.int .i64 yt) = w6 at *
        generalize (T.set i (xk, xv, xt)).set k (yk, yv, yt) = O at *
        have hOl : O.length ≤ 20000 := by omega
        have hown := Hown6.out
        have hpo : IsPairs w6 (.slice (some ⟨g, 0, none⟩) T.length co) O := IsPairs.owned hown hs2.out
        have HSe := Lib.hid (HS.out.below hb26)
        clear hown hb26
        have HSf := Lib.hid (HSe.out.add hpo)
        clear hpo
        obtain ⟨rO, hvo⟩ : ∃ r, validB O = r := ⟨_, rfl⟩
        obtain ⟨rR, hvr⟩ : ∃ r, validB raw = r := ⟨_, rfl⟩
        have HvO := Lib.hid hvo
        have HvR := Lib.hid hvr
        clear hvo hvr
        go_wp2_with fail
        refine (st_valid HSf.out T (by simp) (by omega)).mono ?_
        rw [Hv.out]
        rintro e wa ⟨rfl, hst⟩
        replace HSf := Lib.hid hst
        clear hst
        go_wp2_with fail
        refine (st_valid HSf.out O (by simp) hOl).mono ?_
        rw [HvO.out]
        rintro e wb ⟨rfl, hst⟩
        replace HSf := Lib.hid hst
        clear hst
        go_wp2_with fail
        refine (st_rvalid HSf.out O (by simp) hOl).mono ?_
        rw [HvO.out]
        rintro e wd ⟨rfl, hst⟩
        replace HSf := Lib.hid hst
        clear hst
        go_wp2_with fail
        refine (st_valid HSf.out raw (by simp) (by omega)).mono ?_
        rw [HvR.out]
        rintro e we ⟨rfl, hst⟩
        replace HSf := Lib.hid hst
        clear hst
        go_wp2_with fail
        refine (st_rvalid HSf.out raw (by simp) (by omega)).mono ?_
        rw [HvR.out]
        rintro e wf ⟨rfl, hst⟩
        have Hg := Lib.hid hst.g
        clear hst
        go_wp2
        go_ret
        exact ⟨rfl, Hg.out⟩
      · have hcz2 : (c : Int) % 2 = 1 := by omega
        have hct2 : (c : Int).tmod 2 = 1 := by rw [Int.tmod_eq_emod_of_nonneg (by omega)]; exact hcz2
        clear hc2 u0 u1 u2
        generalize T.set i (xk, xv, xt) = O at *
        have hOl : O.length ≤ 20000 := by omega
        go_upto_region 11 with fail
        have hown := Hown5.out
        have hpo : IsPairs w5 (.slice (some ⟨g, 0, none⟩) T.length co) O := IsPairs.owned hown hs1.out
        have HSe := Lib.hid (HS.out.below hb25)
        have HO1 := Lib.hid hO1
        clear hown hb25
        have HSf := Lib.hid (HSe.out.add hpo)
        clear hpo
        obtain ⟨rO, hvo⟩ : ∃ r, validB O = r := ⟨_, rfl⟩
        obtain ⟨rR, hvr⟩ : ∃ r, validB raw = r := ⟨_, rfl⟩
        have HvO := Lib.hid hvo
        have HvR := Lib.hid hvr
        clear hvo hvr
        go_wp2_with fail
        refine (st_valid HSf.out T (by simp) (by omega)).mono ?_
        rw [Hv.out]
        rintro e wa ⟨rfl, hst⟩
        replace HSf := Lib.hid hst
        clear hst
        go_wp2_with fail
        refine (st_valid HSf.out O (by simp) hOl).mono ?_
        rw [HvO.out]
        rintro e wb ⟨rfl, hst⟩
        replace HSf := Lib.hid hst
        clear hst
        go_wp2_with fail
        refine (st_rvalid HSf.out O (by simp) hOl).mono ?_
        rw [HvO.out]
        rintro e wd ⟨rfl, hst⟩
        replace HSf := Lib.hid hst
        clear hst
        go_wp2_with fail
        refine (st_valid HSf.out raw (by simp) (by omega)).mono ?_
        rw [HvR.out]
        rintro e we ⟨rfl, hst⟩
        replace HSf := Lib.hid hst
        clear hst
        go_wp2_with fail
        refine (st_rvalid HSf.out raw (by simp) (by omega)).mono ?_
        rw [HvR.out]
        rintro e wf ⟨rfl, hst⟩
        have Hg := Lib.hid hst.g
        clear hst
        go_wp2
        go_ret
        exact ⟨rfl, Hg.out⟩

end Go.Proofs.Ytbbiobhffelaaaa
