/-
  Append within a drawn region, of messages and of spans; plain facts on the numbers of messages that go and stay.
-/
import Derived.Test.YtjncehkldhkobaaGreatSD
namespace Go.Proofs.YtjncehkldhkobaaGreat
open Go.RowKit Go.Sort
set_option linter.unusedVariables false

theorem run_turn {w : World} (t e ty : TypeId) (i0 : TypeInfo) (z : Value) (size bytes : Nat)
    (ht : Tryz.prog.underlying t = some (.slice e)) (hi : Tryz.prog.info? e = some i0) (hz0 : i0.zero = some z) (hz1 : i0.size = size) (hz2 : i0.bytes = bytes) (hzs : z.cells.size = size) (hsz : 0 < size) (hby : bytes ≤ 1000)
    (base : Nat) (v : Value) (n : Nat) (xs : List Value) (hown : w.ownsRow base e size v n xs)
    (p : Option Addr) (m cap : Nat) (news : List Value) (hnl : news.length = m * size) (hp : m ≠ 0 → ∃ ad, p = some ad ∧ ∀ j u, news[j]? = some u → w.cell? (ad.add j) = some u) (h1 : ∀ u ∈ news, u.oneCell' = true)
    (hl : n + m ≤ 1000000000) (hbase : base ≤ w.heap.size) :
    ∃ v' w', (Builtin.append_ #[t, t] ty #[v, .slice p m cap]).run Tryz.prog w = .ok v' w' ∧ w'.ownsRow base e size v' (n + m) (xs ++ news) ∧ Turn v v' w w' := by
  have hbytes : (n + m) * bytes ≤ 140737488355328 := Nat.le_trans (Nat.mul_le_mul hl hby) (by decide)
  cases p with
  | none =>
    have hm : m = 0 := by
      rcases Nat.eq_zero_or_pos m with h0 | h0
      · exact h0
      · obtain ⟨ad, h, _⟩ := hp (by omega)
        cases h
    subst hm
    have hn0 : news = [] := List.length_eq_zero_iff.1 (by simpa using hnl)
    subst hn0
    refine ⟨v, w, ?_, by simpa using hown, turn_refl _ _⟩
    rcases hown.2 with ⟨rfl, _⟩ | ⟨g, cap', cur, rfl, _, _, hnc, _⟩
    · simp [Builtin.append_, run_underlying ht, sizeOf, typeInfo, hi, Builtin.lenOf, Builtin.firstCells]
    · simp [Builtin.append_, run_underlying ht, sizeOf, typeInfo, hi, Builtin.lenOf, Builtin.firstCells, hnc, storeCells]
  | some ad =>
    have hnews : ∀ j u, news[j]? = some u → w.cell? (ad.add j) = some u := by
      by_cases hm : m = 0
      · have hn0 : news = [] := List.length_eq_zero_iff.1 (by rw [hnl, hm]; simp)
        subst hn0
        intro j u hj; simp at hj
      · obtain ⟨ad', e1, hc⟩ := hp hm
        cases e1
        exact hc
    by_cases hfit : ∃ g cap0, v = .slice (some ⟨g, 0, none⟩) n cap0 ∧ n + m ≤ cap0
    · obtain ⟨g, cap0, rfl, hc⟩ := hfit
      obtain ⟨w', r1, r2, r3⟩ := run_append_fits (P := Tryz.prog) w base t ty e i0 size ht hi hz1 g n cap0 xs hown ad m cap news hnl hnews h1 hc
      exact ⟨_, w', r1, r2, ⟨r3, fun j hj => .inr hj⟩⟩
    · obtain ⟨v', w', r1, r2, r3, -⟩ := run_append_own (P := Tryz.prog) w base t ty e i0 z size bytes ht hi hz0 hz1 hz2 hzs hsz v n xs hown ad m cap news hnl hnews h1 (by unfold maxLen; omega) hbytes hbase
      have hblk : ∀ j, v'.ownBlock = some j → w.heap.size ≤ j ∨ v.ownBlock = some j := by
        rcases hown.2 with ⟨hv, h0⟩ | ⟨g, cap0, cur, hv, hbg, hg, hnc, hcm, hcs, htake⟩
        · subst h0
          obtain ⟨v2, w2, q1, q2, -, -⟩ := run_append_own (P := Tryz.prog) w w.heap.size t ty e i0 z size bytes ht hi hz0 hz1 hz2 hzs hsz v 0 xs ⟨hown.1, .inl ⟨hv, rfl⟩⟩ ad m cap news hnl hnews h1 (by unfold maxLen; omega) hbytes (Nat.le_refl _)
          have e := r1.symm.trans q1
          injection e with e1 e2
          subst e1
          exact fun j hj => .inl (q2.lt j hj).1
        · have holds : ∀ j u, xs[j]? = some u → w.cell? ((⟨g, 0, none⟩ : Addr).add j) = some u := hown.cells (g := g) (by rw [hv]; rfl)
          have hroom : cap0 < n + m := by
            rcases Nat.lt_or_ge cap0 (n + m) with h | h
            · exact h
            · exact absurd ⟨g, cap0, hv, h⟩ hfit
          have hr := run_append_grow (P := Tryz.prog) w t ty e i0 z ht hi hz0 ⟨g, 0, none⟩ n cap0 xs (by rw [hz1]; exact hown.1) holds ad m cap news (by rw [hz1]; exact hnl) hnews hroom (by omega) (growslice_fits (by omega) (by rw [hz2]; exact hbytes))
          rw [← hv] at hr
          have e := r1.symm.trans hr
          injection e with e1 e2
          intro j hj
          rw [e1] at hj
          have h2 : w.heap.size = j := Option.some.inj hj
          exact .inl (by omega)
      exact ⟨v', w', r1, r2, ⟨r3, hblk⟩⟩
theorem msgs_news {w : World} {p : Option Addr} {n cap : Nat} {m : List Ms} (hp : IsMsgs w (.slice p n cap) m) : n = m.length ∧ (m.length ≠ 0 → ∃ ad, p = some ad ∧ ∀ j u, (m.flatMap encML)[j]? = some u → w.cell? (ad.add j) = some u) := by
  obtain ⟨p', cap', he, hlc, hcm, hpp⟩ := hp
  cases he
  refine ⟨rfl, fun hm => ?_⟩
  obtain ⟨b, off, rfl, hlt, hc⟩ := hpp (by rintro rfl; simp at hm)
  refine ⟨_, rfl, cells_at fun j u hj => ?_⟩
  have hj1 : j < m.length * 8 := by rw [← flatM_len]; exact (List.getElem?_eq_some_iff.1 hj).1
  have hi2 : j / 8 < m.length := by omega
  have g := flatM_get m (j / 8) (j % 8) hi2 (by omega)
  rw [show j / 8 * 8 + j % 8 = j by omega, hj] at g
  obtain ⟨c0, c1, c2, c3, c4, c5, c6, c7⟩ := hc (j / 8) hi2
  have e : ∀ k, j % 8 = k → off + j = off + j / 8 * 8 + k := fun k hk => by omega
  have hr : j % 8 = 0 ∨ j % 8 = 1 ∨ j % 8 = 2 ∨ j % 8 = 3 ∨ j % 8 = 4 ∨ j % 8 = 5 ∨ j % 8 = 6 ∨ j % 8 = 7 := by omega
  rcases hr with h | h | h | h | h | h | h | h
  all_goals
    rw [e _ h]
    rw [h] at g
    simp only [encML, List.getElem?_cons_zero, List.getElem?_cons_succ] at g
    rw [g]
    assumption
theorem spans_news {w : World} {p : Option Addr} {n cap : Nat} {m : List Sp} (hp : IsSpans w (.slice p n cap) m) : n = m.length ∧ (m.length ≠ 0 → ∃ ad, p = some ad ∧ ∀ j u, (m.flatMap encS)[j]? = some u → w.cell? (ad.add j) = some u) := by
  obtain ⟨p', cap', he, hlc, hcm, hpp⟩ := hp
  cases he
  refine ⟨rfl, fun hm => ?_⟩
  obtain ⟨b, off, rfl, hlt, hc⟩ := hpp (by rintro rfl; simp at hm)
  refine ⟨_, rfl, cells_at fun j u hj => ?_⟩
  have hj1 : j < m.length * 2 := by rw [← flatS_len]; exact (List.getElem?_eq_some_iff.1 hj).1
  have hi2 : j / 2 < m.length := by omega
  have g := flatS_get m (j / 2) hi2
  have c := hc (j / 2) hi2
  have hcase : j = j / 2 * 2 ∨ j = j / 2 * 2 + 1 := by omega
  rcases hcase with h | h
  · rw [h] at hj ⊢
    rw [g.1] at hj
    rw [← Option.some.inj hj]; exact c.1
  · rw [h] at hj ⊢
    rw [g.2] at hj
    rw [← Option.some.inj hj]; exact c.2
theorem step_turn {ops : Array Oper} {o : Oper} {a : Act} {w : World} {K : Act → World → Prop} {Q : Exit → Act → World → Prop} {E : Prop} (hg : o.guard = none) (s x : Operand) (t e : TypeId) (i0 : TypeInfo) (z : Value) (size bytes : Nat)
    (ht : Tryz.prog.underlying t = some (.slice e)) (hi : Tryz.prog.info? e = some i0) (hz0 : i0.zero = some z) (hz1 : i0.size = size) (hz2 : i0.bytes = bytes) (hzs : z.cells.size = size) (hsz : 0 < size) (hby : bytes ≤ 1000)
    (hop : o.op = .call { callee := .builtin .append, args := #[s, x], argTypes := #[t, t] }) (base : Nat) (v : Value) (n : Nat) (xs : List Value) (hs : a.eval s = v) (hown : w.ownsRow base e size v n xs)
    (p : Option Addr) (m cap : Nat) (news : List Value) (hx : a.eval x = .slice p m cap) (hnl : news.length = m * size) (hp : m ≠ 0 → ∃ ad, p = some ad ∧ ∀ j u, news[j]? = some u → w.cell? (ad.add j) = some u) (h1 : ∀ u ∈ news, u.oneCell' = true)
    (hl : n + m ≤ 1000000000) (hbase : base ≤ w.heap.size)
    (hK : ∀ v' w', w'.ownsRow base e size v' (n + m) (xs ++ news) → Turn v v' w w' → K (a.put o.dst v') w') : if Region.wanted o (yielded ops a.tmps) = true then Oper.wp Tryz.prog o a w K Q else E := by
  have hw : Region.wanted o (yielded ops a.tmps) = true := by simp [Region.wanted, hg]
  rw [if_pos hw]
  obtain ⟨v', w', hrun, r1, r2⟩ := run_turn t e o.type i0 z size bytes ht hi hz0 hz1 hz2 hzs hsz hby base v n xs hown p m cap news hnl hp h1 hl hbase
  unfold Oper.wp
  simp [execOp, hop, resolve, invoke, builtin, hs, hx, hrun, Result.andThen]
  exact hK v' w' r1 r2
theorem step_msgs {ops : Array Oper} {o : Oper} {a : Act} {w : World} {K : Act → World → Prop} {Q : Exit → Act → World → Prop} {E : Prop} (hg : o.guard = none) (s x : Operand)
    (hop : o.op = .call { callee := .builtin .append, args := #[s, x], argTypes := #[25, 25] }) (base : Nat) (v : Value) (l : List Ms) (hs : a.eval s = v) (hown : OwnM w base v l)
    (p : Option Addr) (n cap : Nat) (m : List Ms) (hx : a.eval x = .slice p n cap) (hp : IsMsgs w (.slice p n cap) m) (hl : l.length + m.length ≤ 1000000000) (hbase : base ≤ w.heap.size)
    (hK : ∀ v' w', OwnM w' base v' (l ++ m) → Turn v v' w w' → K (a.put o.dst v') w') : if Region.wanted o (yielded ops a.tmps) = true then Oper.wp Tryz.prog o a w K Q else E := by
  obtain ⟨i0, hi, hz0, hz1, hz2⟩ := info_parts infoM
  obtain ⟨rfl, hn⟩ := msgs_news hp
  refine step_turn hg s x 25 40 i0 (.agg #[.int .i64 0, .string ⟨#[]⟩, .string ⟨#[]⟩, .string ⟨#[]⟩, .string ⟨#[]⟩, .string ⟨#[]⟩, .string ⟨#[]⟩, .int .i64 0]) 8 112 Tryz.underlying25 hi hz0 hz1 hz2 rfl (by decide) (by decide) hop base v l.length _ hs hown p m.length cap (m.flatMap encML) hx (flatM_len m) hn (flatM_one m) hl hbase ?_
  intro v' w' h2 h3
  refine hK v' w' ?_ h3
  unfold OwnM
  rw [List.length_append, List.flatMap_append]; exact h2
theorem step_spans {ops : Array Oper} {o : Oper} {a : Act} {w : World} {K : Act → World → Prop} {Q : Exit → Act → World → Prop} {E : Prop} (hg : o.guard = none) (s x : Operand)
    (hop : o.op = .call { callee := .builtin .append, args := #[s, x], argTypes := #[29, 29] }) (base : Nat) (v : Value) (l : List Sp) (hs : a.eval s = v) (hown : w.ownsRow base 38 2 v l.length (l.flatMap encS))
    (p : Option Addr) (n cap : Nat) (m : List Sp) (hx : a.eval x = .slice p n cap) (hp : IsSpans w (.slice p n cap) m) (hl : l.length + m.length ≤ 1000000000) (hbase : base ≤ w.heap.size)
    (hK : ∀ v' w', w'.ownsRow base 38 2 v' (l ++ m).length ((l ++ m).flatMap encS) → Turn v v' w w' → K (a.put o.dst v') w') : if Region.wanted o (yielded ops a.tmps) = true then Oper.wp Tryz.prog o a w K Q else E := by
  obtain ⟨i0, hi, hz0, hz1, hz2⟩ := info_parts infoS
  obtain ⟨rfl, hn⟩ := spans_news hp
  refine step_turn hg s x 29 38 i0 (.agg #[.string ⟨#[]⟩, .string ⟨#[]⟩]) 2 32 Tryz.underlying29 hi hz0 hz1 hz2 rfl (by decide) (by decide) hop base v l.length _ hs hown p m.length cap (m.flatMap encS) hx (flatS_len m) hn (flatS_one m) hl hbase ?_
  intro v' w' h2 h3
  refine hK v' w' ?_ h3
  rw [List.length_append, List.flatMap_append]; exact h2

/-! ### Numbers -/
def plB (m : Ms) : Bool := !hasSpB m
def plN (l : List Ms) : Nat := l.countP plB
theorem pl_app (a b : List Ms) : plN (a ++ b) = plN a + plN b := List.countP_append
theorem pl_one (m : Ms) : plN [m] = if plB m then 1 else 0 := by unfold plN; rw [List.countP_singleton]
theorem pl_take (l : List Ms) (k : Nat) (h : k < l.length) : plN (l.take (k + 1)) = plN (l.take k) + if plB l[k] then 1 else 0 := by rw [List.take_succ_eq_append_getElem h, pl_app, pl_one]
theorem pl_len (l : List Ms) : plN l ≤ l.length := List.countP_le_length
theorem pl_part (m : Ms) (s : Sp) : plN [onlyS m s] + plN (restR m s) = plN [m] := by
  have e1 : plB (onlyS m s) = plB m := by have := only_kind m s; unfold plB hasSpB; rw [this]
  rw [pl_one, pl_one, e1]
  cases h : hasSpB m with
  | true =>
    have hp : plB m = false := by unfold plB; rw [h]; rfl
    have h0 : plN (restR m s) = 0 := by
      unfold plN
      rw [List.countP_eq_zero]
      intro o ho
      obtain ⟨_, x, _, rfl⟩ := mem_rest' ho
      show ¬ (!hasSpB (setSp m x)) = true
      rw [show hasSpB (setSp m x) = hasSpB m from rfl, h]; simp
    rw [hp, h0]; rfl
  | false =>
    have h0 : restR m s = [] := by unfold restR; rw [h]; rfl
    rw [h0]; rfl
theorem pl_ready (s : Sp) (l : List Ms) : plN (readyW s l).1 + plN (readyW s l).2.1 = plN l := by
  have h : ∀ k, k ≤ l.length → plN (readyW s (l.take k)).1 + plN (readyW s (l.take k)).2.1 = plN (l.take k) := by
    intro k
    induction k with
    | zero => intro _; rw [List.take_zero]; rfl
    | succ k ih =>
      intro hk
      have h1 := ih (Nat.le_of_succ_le hk)
      rw [ready_take s l k hk, List.take_succ_eq_append_getElem hk, pl_app]
      cases hg : goesB s (readyW s (l.take k)).2.2 l[k] with
      | true => rw [step_go hg]; dsimp only; rw [pl_app, pl_app, ← pl_part l[k] s]; omega
      | false => rw [step_stay hg]; dsimp only; rw [pl_app]; omega
  have := h l.length (Nat.le_refl _)
  rwa [List.take_length] at this
theorem kid_none : kidSp [] 0 = ([], []) := by decide
theorem meet_all {a : Sp} (h : emptyB a = false) : meetS a ([], []) = a := by
  have h1 : ltP (keyP a.1) (keyP []) = false := keyP_nil a.1
  have h2 : ltP (hiP []) (hiP a.2) = false := by
    rw [hiP_nil]
    cases e : ltP topP (hiP a.2) with
    | false => rfl
    | true => exact absurd e (top_max _)
  unfold meetS
  dsimp only
  rw [h1, h2]
  simp only [Bool.false_eq_true, ↓reduceIte]
  rw [show (a.1, a.2) = a from rfl, h]; rfl
theorem minus_all (a : Sp) : minusS [a] [([], [])] = [] := by
  have hn := minus_nrm [a] [([], [])]
  cases e : minusS [a] [([], [])] with
  | nil => rfl
  | cons x r =>
    exfalso
    rw [e] at hn
    have hx := has_lo hn.1
    have h1 : InL (minusS [a] [([], [])]) x.1 := by rw [e]; exact ⟨x, by simp, hx⟩
    have h2 := ((minus_in [a] [([], [])] x.1).1 h1).2
    exact h2 ((inB_iff _ _).1 (by rw [inB_one]; exact has_all _))
theorem free_all {m : Ms} (hf : FullM m) (hw : WritesK m) : goesB ([], []) [] m = true ∧ onlyS m ([], []) = m ∧ restR m ([], []) = [] := by
  have hme : meetB ([], []) (writesS m) = true := by
    obtain ⟨k, hk⟩ := hw
    exact (meet_iff _ _).2 ⟨k, hk, has_all k⟩
  have hno : ∀ l : List Sp, touchB l [] = false := fun l => touch_none fun k _ => rfl
  refine ⟨?_, ?_, ?_⟩
  · unfold goesB
    rw [hno, hno]
    split
    · rw [(lies_iff m ([], [])).2 fun k _ => has_all k]; rfl
    · rw [hme]; rfl
  · unfold onlyS
    cases h : hasSpB m with
    | false => rfl
    | true =>
      have he : emptyB (m.lo, m.hi) = false := hf (m.lo, m.hi) (by unfold touchS; rw [writes_sp h]; simp)
      simp only [↓reduceIte]
      rw [meet_all he]; rfl
  · unfold restR; rw [minus_all]; simp
theorem ready_free : ∀ l : List Ms, (∀ m ∈ l, FullM m ∧ WritesK m) → readyW ([], []) l = (l, [], []) := by
  intro l hl
  have h : ∀ k, k ≤ l.length → readyW ([], []) (l.take k) = (l.take k, [], []) := by
    intro k
    induction k with
    | zero => intro _; rw [List.take_zero]; rfl
    | succ k ih =>
      intro hk
      have h1 := ih (Nat.le_of_succ_le hk)
      obtain ⟨f1, f2⟩ := hl _ (List.getElem_mem hk)
      obtain ⟨g1, g2, g3⟩ := free_all f1 f2
      rw [ready_take _ l k hk, h1, step_go g1, g2, g3, List.take_succ_eq_append_getElem hk]; rfl
  have := h l.length (Nat.le_refl _)
  rwa [List.take_length] at this

end Go.Proofs.YtjncehkldhkobaaGreat
