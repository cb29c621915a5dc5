/-
  The walk of the law SettleTurns.
-/
import Derived.Test.YtfpcaoacbjhkgaaGreatUH
namespace Go.Proofs.YtfpcaoacbjhkgaaGreat
open Go.RowKit Go.Sort
set_option linter.unusedVariables false

theorem okAll_join {a b : List Ms} {t : List Pr} (ha : OkAll a t) (hb : OkAll b (allS a t)) : OkAll (a ++ b) t := by
  intro k hk
  rw [List.length_append] at hk
  rw [List.take_append]
  by_cases h : k ≤ a.length
  · rw [show k - a.length = 0 by omega, List.take_zero, List.append_nil]
    exact ha k h
  · rw [List.take_of_length_le (by omega), all_appU]
    exact hb (k - a.length) (by omega)
theorem okAll_tail {m : Ms} {r : List Ms} {t : List Pr} (h : OkAll (m :: r) t) : OkAll r (applyS m t) := by
  intro k hk
  have := h (k + 1) (by simp; omega)
  rw [List.take_succ_cons] at this
  exact this
theorem pairs_form {w : World} {v : Value} {l : List Pr} (h : IsPairs w v l) : ∃ a c, v = .slice a l.length c := by
  obtain ⟨a, c, h1, -⟩ := h
  exact ⟨a, c, h1⟩
theorem msgs_form {w : World} {v : Value} {l : List Ms} (h : IsMsgs w v l) : ∃ a c, v = .slice a l.length c := by
  obtain ⟨a, c, h1, -⟩ := h
  exact ⟨a, c, h1⟩
theorem u_ps (v u : Value) (l : List Pr) (w : World) (h : IsPairs w v l) (k : IsPairs w u l) : Calls Tryz.prog 39 #[v, u] w fun e w' => e = .returned (.bool true) ∧ Below w.heap.size w w' :=
  (T4.same_w v u l l w h k).mono fun e w' ⟨h1, n, h2⟩ => ⟨h1.trans (by rw [decide_eq_true rfl]), by rw [h2]; exact below_drewN _ _⟩
/-- The law's table, buffer and source, in the law's bounds. -/
theorem settled_okAll (m : Ms) {t : List Pr} (ht : Srt t) (hv : validM m = true) (hk : m.key.length ≤ 100000000) (hkt : ∀ x ∈ t, x.1.length ≤ 90000000) (hl : t.length ≤ 10000000) : OkAll (settledS m (sourceS m t)) t := by
  refine okAll_still 100000000 (by omega) ht (fun o ho => ⟨settled_still ho, ?_⟩) (fun x hx => by have := hkt x hx; omega) (by have h1 := settled_len m (sourceS m t); have h2 := source_len m t; omega)
  cases hm : movesB m with
  | false =>
    rw [settled_other hm, List.mem_singleton] at ho
    rw [ho]; exact hk
  | true => exact settled_key _ hk (valid_apart hv hm).2.1 (fun x hx => by have := hkt x (source_mem hx).1; omega) ho

set_option maxRecDepth 100000 in
set_option maxHeartbeats 4000000 in
theorem settleTurns_walk (w : World) (v0 : Value) (x0 : List Rw) (h0 : T4.IsRaws w v0 x0) (v1 : Value) (x1 : List R6) (h1 : IsR6s w v1 x1) :
    Calls Tryz.prog 7 #[v0, v1] w fun e w' => e = .returned (.bool true) ∧ Below w.heap.size w w' := by
  have mixed := mixedA
  have H0 := Lib.hid h0
  have H1 := Lib.hid h1
  clear h0 h1
  have HT0 := Lib.hid (fun wx (h : T4.IsRaws wx v0 x0) => T4.made_w v0 x0 wx h)
  have HL0 := Lib.hid (fun wx (h : IsR6s wx v1 x1) => list_w v1 x1 10 wx h (by decide))
  have hst := T4.srt_made x0
  have hTl := T4.made_len x0
  have hTs := T4.made_small (l := x0)
  have hall := listS_okU x1 10
  have hml := listS_len x1 10
  generalize T4.madeS x0 = T at *
  generalize listS x1 10 = Bf at *
  have OK1 := okAll_many Bf hst (by omega) (fun x hx => by have := (hTs x hx).1; omega) (fun m hm => (hall m hm).2.2) (by omega)
  go_enter Tryz.func7, Tryz.ntmps7
  go_wp2_with fail
  refine (usan_w w).mono ?_
  rintro e w1 ⟨rfl, hb1⟩
  have HB1 := Lib.hid hb1
  clear hb1
  go_wp2_with fail
  refine (HT0.out w1 (H0.out.below HB1.out)).mono ?_
  rintro e w2 ⟨vt, rfl, -, hp2, hb2⟩
  have HP2 := Lib.hid hp2
  have HB2 := Lib.hid (HB1.out.trans (hb2.mono HB1.out.size))
  obtain ⟨at', ct, rfl⟩ := pairs_form hp2
  clear hp2 hb2 HB1
  go_wp2_with fail
  refine (HL0.out w2 (H1.out.below HB2.out)).mono ?_
  rintro e w3 ⟨vb, rfl, ho3, hb3⟩
  have hm3 := ho3.msgs
  have HM3 := Lib.hid hm3
  have HP3 := Lib.hid (HP2.out.below hb3)
  have HB3 := Lib.hid (HB2.out.trans (hb3.mono HB2.out.size))
  clear ho3 hb3 HP2 HB2 H0 H1 HT0 HL0
  cases Bf with
  | nil =>
    obtain ⟨ab, cb, rfl⟩ := msgs_form hm3
    clear hm3
    go_wp2
    go_ret
    exact ⟨rfl, HB3.out⟩
  | cons m r =>
    obtain ⟨b, off, cap, a, rfl, hlc, hcm, hab, hc⟩ := hm3.form
    obtain ⟨rfl, hc0⟩ := hc 0 (by simp)
    simp only [Nat.zero_mul, Nat.add_zero, List.getElem_cons_zero] at hc0
    obtain ⟨-, hbl⟩ := hab (by simp)
    have HC0 := Lib.hid hc0
    have hn : 0 < (m :: r).length := by simp
    obtain ⟨hzm, hvm, hfm⟩ := hall m (by simp)
    have hsrc := source_len m T
    have hsz5 : m.src.length ≤ 140737488355328 := by have := hzm.2.2.2.2.1; omega
    have HSO := Lib.hid (fun wx (h : IsPairs wx (.slice at' T.length ct) T) => source_w _ T m wx h (by omega) hsz5)
    have HTU := Lib.hid (fun v sv wx (h : IsMsgs wx v (m :: r)) (k : IsPairs wx sv (sourceS m T)) => sturn_w v sv (m :: r) (sourceS m T) wx h (fun o ho => (hall o ho).1) k (by omega) (by omega) (fun m' r' e _ x hx => by
      cases e
      have := source_mem hx
      exact ⟨this.2, by have := (hTs x this.1).1; omega⟩))
    have HAB := Lib.hid (fun v u wx (h : IsPairs wx v T) (k : IsMsgs wx u (m :: r)) => all_w v u T (m :: r) wx h k hst (fun o ho => (hall o ho).1) OK1)
    have hturn := turn_all m r T
    have HAT := Lib.hid (fun v u wx (h : IsPairs wx v T) (k : IsMsgs wx u (settledS m (sourceS m T) ++ r)) => all_w v u T _ wx h k hst (fun o ho => by
      rcases List.mem_append.1 ho with ho | ho
      · exact settled_size hzm hvm (fun x hx => by have := hTs x (source_mem hx).1; omega) ho
      · exact (hall o (by simp [ho])).1) (okAll_join (settled_okAll m hst hvm (by have := hfm.1; omega) (fun x hx => by have := (hTs x hx).1; omega) (by omega)) (by rw [settled_all]; exact okAll_tail OK1)))
    have hte : allS (settledS m (sourceS m T) ++ r) T = allS (m :: r) T := hturn
    rw [hte] at HAT
    obtain ⟨c0, c1, c2, c3, c4, c5, c6, c7⟩ := hc0
    clear hm3 hc hab hturn hte hall hsrc hzm hvm hfm OK1 hTs hsz5
    generalize allS (m :: r) T = A at *
    unfold TurnOut turnR at HTU
    have htb : turnB (m :: r) = movesB m := rfl
    rw [htb] at HTU
    have hts : turnS (m :: r) (sourceS m T) = settledS m (sourceS m T) ++ r := rfl
    rw [hts] at HTU
    generalize settledS m (sourceS m T) ++ r = L at *
    generalize sourceS m T = src at *
    clear htb hts
    obtain ⟨n, hne⟩ : ∃ n, n = (m :: r).length := ⟨_, rfl⟩
    rw [← hne] at hn HM3 hml hlc ⊢
    clear hne
    have hnz : (0 : Int) < (n : Int) := by omega
    have hnb : ((n : Int) == 0) = false := by simp; omega
    unfold maxLen at hcm
    go_wp2_with fail
    refine (HSO.out w3 HP3.out).mono ?_
    rintro e w4 ⟨vs, rfl, hp4, hb4⟩
    have HS4 := Lib.hid hp4
    have HP4 := Lib.hid (HP3.out.below hb4)
    have HM4 := Lib.hid (HM3.out.below hb4)
    have HB4 := Lib.hid (HB3.out.trans (hb4.mono HB3.out.size))
    have hc4 := HC0.out.below hb4 hbl
    have hbl4 : b < w4.heap.size := Nat.lt_of_lt_of_le hbl hb4.size
    obtain ⟨as', cs, rfl⟩ := pairs_form hp4
    clear hp4 hb4 c0 c1 c2 c3 c4 c5 c6 c7 HC0 HP3 HM3 HB3
    go_wp2_with fail
    refine (HTU.out _ _ w4 HM4.out HS4.out).mono ?_
    rintro e w5 ⟨vl, rfl, hp5, hb5⟩
    have HL5 := Lib.hid hp5
    have HP5 := Lib.hid (HP4.out.below hb5)
    have HM5 := Lib.hid (HM4.out.below hb5)
    have HB5 := Lib.hid (HB4.out.trans (hb5.mono HB4.out.size))
    obtain ⟨c0, -⟩ := hc4.below hb5 hbl4
    obtain ⟨al, cl, rfl⟩ := msgs_form hp5
    clear hp5 hb5 HP4 HM4 HB4 HS4 hc4 HTU HSO
    cases hmb : movesB m with
    | false =>
      have h4 : ¬ m.kind = 4 := fun e => by rw [(moves_iff m).2 (.inl e)] at hmb; cases hmb
      have h5 : ¬ m.kind = 5 := fun e => by rw [(moves_iff m).2 (.inr e)] at hmb; cases hmb
      have e4 : (m.kind != 4) = true := by simpa using h4
      have e5 : (m.kind != 5) = true := by simpa using h5
      have e4' : (m.kind == 4) = false := by simpa using h4
      have e5' : (m.kind == 5) = false := by simpa using h5
      rw [hmb] at HL5
      clear h4 h5 hmb HAT HAB
      simp only [Bool.false_eq_true, if_false, List.length_nil] at HL5 ⊢
      go_wp2
      go_ret
      exact ⟨rfl, HB5.out⟩
    | true =>
      have hkd := (moves_iff m).1 hmb
      rw [hmb] at HL5
      simp only [if_true] at HL5 ⊢
      clear hmb
      have HSA := Lib.hid (fun v u wx (h : IsPairs wx v A) (k : IsPairs wx u A) => u_ps v u A wx h k)
      generalize m.kind = kd at *
      rcases hkd with rfl | rfl
      all_goals
        go_wp2_with fail
        refine (HAT.out _ _ w5 HP5.out HL5.out).mono ?_
        rintro e w6 ⟨v6, rfl, -, hp6, hb6⟩
        have HA6 := Lib.hid hp6
        have HP6 := Lib.hid (HP5.out.below hb6)
        have HM6 := Lib.hid (HM5.out.below hb6)
        have HB6 := Lib.hid (HB5.out.trans (hb6.mono HB5.out.size))
        obtain ⟨a6, c6, rfl⟩ := pairs_form hp6
        clear hp6 hb6 c0
        go_wp2_with fail
        refine (HAB.out _ _ w6 HP6.out HM6.out).mono ?_
        rintro e w7 ⟨v7, rfl, -, hp7, hb7⟩
        have HA7 := Lib.hid hp7
        have HA67 := Lib.hid (HA6.out.below hb7)
        have HB7 := Lib.hid (HB6.out.trans (hb7.mono HB6.out.size))
        obtain ⟨a7, c7, rfl⟩ := pairs_form hp7
        clear hp7 hb7
        go_wp2_with fail
        refine (HSA.out _ _ w7 HA67.out HA7.out).mono ?_
        rintro e w8 ⟨rfl, hb8⟩
        have HB8 := Lib.hid (HB7.out.trans (hb8.mono HB7.out.size))
        clear hb8
        go_wp2_with fail
        go_ret
        exact ⟨by first | rfl | simp, HB8.out⟩

end Go.Proofs.YtfpcaoacbjhkgaaGreat
