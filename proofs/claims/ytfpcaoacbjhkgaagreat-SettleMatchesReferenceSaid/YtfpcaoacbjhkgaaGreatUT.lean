/-
  Appending where only the row itself is written; rows of two types lie apart.
-/
import Derived.Test.YtfpcaoacbjhkgaaGreatUQ
namespace Go.Proofs.YtfpcaoacbjhkgaaGreat
open Go.RowKit Go.Sort
set_option linter.unusedVariables false
theorem run_turn {w : World} (t e ty : TypeId) (i0 : TypeInfo) (z : Value) (size bytes : Nat)
    (ht : Tryz.prog.underlying t = some (.slice e)) (hi : Tryz.prog.info? e = some i0) (hz0 : i0.zero = some z) (hz1 : i0.size = size) (hz2 : i0.bytes = bytes) (hzs : z.cells.size = size) (hsz : 0 < size) (hby : bytes ≤ 1000)
    (base : Nat) (v : Value) (n : Nat) (xs : List Value) (hown : w.ownsRow base e size v n xs)
    (p : Option Addr) (m cap : Nat) (news : List Value) (hnl : news.length = m * size) (hp : m ≠ 0 → ∃ ad, p = some ad ∧ ∀ j u, news[j]? = some u → w.cell? (ad.add j) = some u) (h1 : ∀ u ∈ news, u.oneCell' = true)
    (hl : n + m ≤ 1000000000) (hbase : base ≤ w.heap.size) :
    ∃ v' w', (Builtin.append_ #[t, t] ty #[v, .slice p m cap]).run Tryz.prog w = .ok v' w' ∧ w'.ownsRow base e size v' (n + m) (xs ++ news) ∧ Turn v v' w w' := by
  have hbytes : (n + m) * bytes ≤ 140737488355328 := Nat.le_trans (Nat.mul_le_mul hl hby) (by decide)
  cases p with
  | none =>
    have hm : m = 0 := by
      rcases Nat.eq_zero_or_pos m with h0 | h0
      · exact h0
      · obtain ⟨ad, h, _⟩ := hp (by omega)
        cases h
    subst hm
    have hn0 : news = [] := List.length_eq_zero_iff.1 (by simpa using hnl)
    subst hn0
    refine ⟨v, w, ?_, by simpa using hown, turn_refl _ _⟩
    rcases hown.2 with ⟨rfl, _⟩ | ⟨g, cap', cur, rfl, _, _, hnc, _⟩
    · simp [Builtin.append_, run_underlying ht, sizeOf, typeInfo, hi, Builtin.lenOf, Builtin.firstCells]
    · simp [Builtin.append_, run_underlying ht, sizeOf, typeInfo, hi, Builtin.lenOf, Builtin.firstCells, hnc, storeCells]
  | some ad =>
    have hnews : ∀ j u, news[j]? = some u → w.cell? (ad.add j) = some u := by
      by_cases hm : m = 0
      · have hn0 : news = [] := List.length_eq_zero_iff.1 (by rw [hnl, hm]; simp)
        subst hn0
        intro j u hj; simp at hj
      · obtain ⟨ad', e1, hc⟩ := hp hm
        cases e1
        exact hc
    by_cases hfit : ∃ g cap0, v = .slice (some ⟨g, 0, none⟩) n cap0 ∧ n + m ≤ cap0
    · obtain ⟨g, cap0, rfl, hc⟩ := hfit
      obtain ⟨w', r1, r2, r3⟩ := run_append_fits (P := Tryz.prog) w base t ty e i0 size ht hi hz1 g n cap0 xs hown ad m cap news hnl hnews h1 hc
      exact ⟨_, w', r1, r2, ⟨r3, fun j hj => .inr hj⟩⟩
    · obtain ⟨v', w', r1, r2, r3, -⟩ := run_append_own (P := Tryz.prog) w base t ty e i0 z size bytes ht hi hz0 hz1 hz2 hzs hsz v n xs hown ad m cap news hnl hnews h1 (by unfold maxLen; omega) hbytes hbase
      have hblk : ∀ j, v'.ownBlock = some j → w.heap.size ≤ j ∨ v.ownBlock = some j := by
        rcases hown.2 with ⟨hv, h0⟩ | ⟨g, cap0, cur, hv, hbg, hg, hnc, hcm, hcs, htake⟩
        · subst h0
          obtain ⟨v2, w2, q1, q2, -, -⟩ := run_append_own (P := Tryz.prog) w w.heap.size t ty e i0 z size bytes ht hi hz0 hz1 hz2 hzs hsz v 0 xs ⟨hown.1, .inl ⟨hv, rfl⟩⟩ ad m cap news hnl hnews h1 (by unfold maxLen; omega) hbytes (Nat.le_refl _)
          have e := r1.symm.trans q1
          injection e with e1 e2
          subst e1
          exact fun j hj => .inl (q2.lt j hj).1
        · have holds : ∀ j u, xs[j]? = some u → w.cell? ((⟨g, 0, none⟩ : Addr).add j) = some u := hown.cells (g := g) (by rw [hv]; rfl)
          have hroom : cap0 < n + m := by
            rcases Nat.lt_or_ge cap0 (n + m) with h | h
            · exact h
            · exact absurd ⟨g, cap0, hv, h⟩ hfit
          have hr := run_append_grow (P := Tryz.prog) w t ty e i0 z ht hi hz0 ⟨g, 0, none⟩ n cap0 xs (by rw [hz1]; exact hown.1) holds ad m cap news (by rw [hz1]; exact hnl) hnews hroom (by omega) (growslice_fits (by omega) (by rw [hz2]; exact hbytes))
          rw [← hv] at hr
          have e := r1.symm.trans hr
          injection e with e1 e2
          intro j hj
          rw [e1] at hj
          have h2 : w.heap.size = j := Option.some.inj hj
          exact .inl (by omega)
      exact ⟨v', w', r1, r2, ⟨r3, hblk⟩⟩
theorem msgs_news {w : World} {p : Option Addr} {n cap : Nat} {m : List Ms} (hp : IsMsgs w (.slice p n cap) m) : n = m.length ∧ (m.length ≠ 0 → ∃ ad, p = some ad ∧ ∀ j u, (m.flatMap encML)[j]? = some u → w.cell? (ad.add j) = some u) := by
  obtain ⟨p', cap', he, hlc, hcm, hpp⟩ := hp
  cases he
  refine ⟨rfl, fun hm => ?_⟩
  obtain ⟨b, off, rfl, hlt, hc⟩ := hpp (by rintro rfl; simp at hm)
  refine ⟨_, rfl, cells_at fun j u hj => ?_⟩
  have hj1 : j < m.length * 8 := by rw [← flatM_len]; exact (List.getElem?_eq_some_iff.1 hj).1
  have hi2 : j / 8 < m.length := by omega
  have g := flatM_get m (j / 8) (j % 8) hi2 (by omega)
  rw [show j / 8 * 8 + j % 8 = j by omega, hj] at g
  obtain ⟨c0, c1, c2, c3, c4, c5, c6, c7⟩ := hc (j / 8) hi2
  have e : ∀ k, j % 8 = k → off + j = off + j / 8 * 8 + k := fun k hk => by omega
  have hr : j % 8 = 0 ∨ j % 8 = 1 ∨ j % 8 = 2 ∨ j % 8 = 3 ∨ j % 8 = 4 ∨ j % 8 = 5 ∨ j % 8 = 6 ∨ j % 8 = 7 := by omega
  rcases hr with h | h | h | h | h | h | h | h
  all_goals
    rw [e _ h]
    rw [h] at g
    simp only [encML, List.getElem?_cons_zero, List.getElem?_cons_succ] at g
    rw [g]
    assumption
theorem step_turn {ops : Array Oper} {o : Oper} {a : Act} {w : World} {K : Act → World → Prop} {Q : Exit → Act → World → Prop} {E : Prop} (hg : o.guard = none) (s x : Operand) (t e : TypeId) (i0 : TypeInfo) (z : Value) (size bytes : Nat)
    (ht : Tryz.prog.underlying t = some (.slice e)) (hi : Tryz.prog.info? e = some i0) (hz0 : i0.zero = some z) (hz1 : i0.size = size) (hz2 : i0.bytes = bytes) (hzs : z.cells.size = size) (hsz : 0 < size) (hby : bytes ≤ 1000)
    (hop : o.op = .call { callee := .builtin .append, args := #[s, x], argTypes := #[t, t] }) (base : Nat) (v : Value) (n : Nat) (xs : List Value) (hs : a.eval s = v) (hown : w.ownsRow base e size v n xs)
    (p : Option Addr) (m cap : Nat) (news : List Value) (hx : a.eval x = .slice p m cap) (hnl : news.length = m * size) (hp : m ≠ 0 → ∃ ad, p = some ad ∧ ∀ j u, news[j]? = some u → w.cell? (ad.add j) = some u) (h1 : ∀ u ∈ news, u.oneCell' = true)
    (hl : n + m ≤ 1000000000) (hbase : base ≤ w.heap.size)
    (hK : ∀ v' w', w'.ownsRow base e size v' (n + m) (xs ++ news) → Turn v v' w w' → K (a.put o.dst v') w') : if Region.wanted o (yielded ops a.tmps) = true then Oper.wp Tryz.prog o a w K Q else E := by
  have hw : Region.wanted o (yielded ops a.tmps) = true := by simp [Region.wanted, hg]
  rw [if_pos hw]
  obtain ⟨v', w', hrun, r1, r2⟩ := run_turn t e o.type i0 z size bytes ht hi hz0 hz1 hz2 hzs hsz hby base v n xs hown p m cap news hnl hp h1 hl hbase
  unfold Oper.wp
  simp [execOp, hop, resolve, invoke, builtin, hs, hx, hrun, Result.andThen]
  exact hK v' w' r1 r2
theorem step_msgs {ops : Array Oper} {o : Oper} {a : Act} {w : World} {K : Act → World → Prop} {Q : Exit → Act → World → Prop} {E : Prop} (hg : o.guard = none) (s x : Operand)
    (hop : o.op = .call { callee := .builtin .append, args := #[s, x], argTypes := #[25, 25] }) (base : Nat) (v : Value) (l : List Ms) (hs : a.eval s = v) (hown : OwnM w base v l)
    (p : Option Addr) (n cap : Nat) (m : List Ms) (hx : a.eval x = .slice p n cap) (hp : IsMsgs w (.slice p n cap) m) (hl : l.length + m.length ≤ 1000000000) (hbase : base ≤ w.heap.size)
    (hK : ∀ v' w', OwnM w' base v' (l ++ m) → Turn v v' w w' → K (a.put o.dst v') w') : if Region.wanted o (yielded ops a.tmps) = true then Oper.wp Tryz.prog o a w K Q else E := by
  obtain ⟨i0, hi, hz0, hz1, hz2⟩ := info_parts infoM
  obtain ⟨rfl, hn⟩ := msgs_news hp
  refine step_turn hg s x 25 40 i0 (.agg #[.int .i64 0, .string ⟨#[]⟩, .string ⟨#[]⟩, .string ⟨#[]⟩, .string ⟨#[]⟩, .string ⟨#[]⟩, .string ⟨#[]⟩, .int .i64 0]) 8 112 Tryz.underlying25 hi hz0 hz1 hz2 rfl (by decide) (by decide) hop base v l.length _ hs hown p m.length cap (m.flatMap encML) hx (flatM_len m) hn (flatM_one m) hl hbase ?_
  intro v' w' h2 h3
  refine hK v' w' ?_ h3
  unfold OwnM
  rw [List.length_append, List.flatMap_append]; exact h2
open Go.RowKit Go.Sort Go.Shelf
attribute [local go_sem] Oper.semAt_some
theorem rows_apart {W : World} {base k n size size' : Nat} {e f : TypeId} (hef : e ≠ f) {u v : Value} {xs ys : List Value} (h : W.ownsRow base e size u k xs) (g : W.ownsRow base f size' v n ys) : ∀ j, u.ownBlock = some j → v.ownBlock ≠ some j := by
  intro j hj hk
  rcases h.2 with ⟨rfl, _⟩ | ⟨b1, cap, cur, rfl, _, hb1, _⟩
  · cases hj
  rcases g.2 with ⟨rfl, _⟩ | ⟨b2, cap2, cur2, rfl, _, hb2, _⟩
  · cases hk
  have e1 : b1 = j := Option.some.inj hj
  have e2 : b2 = j := Option.some.inj hk
  subst e1 e2
  rw [hb1] at hb2
  simp at hb2
  exact hef hb2.2
theorem own_apart {W : World} {base k n size size' : Nat} {e f : TypeId} (hef : e ≠ f) {u v : Value} {xs ys : List Value} (h : W.ownsRow base e size u k xs) (g : W.ownsRow base f size' v n ys) : u.ownBlock = none ∨ u.ownBlock ≠ v.ownBlock := by
  cases hu : u.ownBlock with
  | none => exact .inl rfl
  | some j => exact .inr fun e' => rows_apart hef h g j hu e'.symm

/-- Messages appended to a row of one's own, the row alone being written. -/
theorem append_msgsT {w : World} {ops : Array Oper} {rest : List Oper} {o : Oper} {a : Act} {Q : Exit → Act → World → Prop} (hgd : o.guard = none) (s x : Operand)
    (ho : o.op = .call { callee := .builtin .append, args := #[s, x], argTypes := #[25, 25] }) (base : Nat) (v : Value) (l : List Ms) (hs : a.eval s = v) (hown : OwnM w base v l)
    (p : Option Addr) (n cap : Nat) (m : List Ms) (hx : a.eval x = .slice p n cap) (hp : IsMsgs w (.slice p n cap) m) (hl : l.length + m.length ≤ 1000000000) (hbase : base ≤ w.heap.size)
    (h : ∀ v' w', OwnM w' base v' (l ++ m) → Turn v v' w w' → wpList Tryz.prog ops Q rest (a.put o.dst v') w') : wpList Tryz.prog ops Q (o :: rest) a w := by
  obtain ⟨i0, hi, hz0, hz1, hz2⟩ := info_parts infoM
  obtain ⟨rfl, hn⟩ := msgs_news hp
  obtain ⟨v', w', hrun, r1, r2⟩ := run_turn 25 40 o.type i0 (.agg #[.int .i64 0, .string ⟨#[]⟩, .string ⟨#[]⟩, .string ⟨#[]⟩, .string ⟨#[]⟩, .string ⟨#[]⟩, .string ⟨#[]⟩, .int .i64 0]) 8 112 Tryz.underlying25 hi hz0 hz1 hz2 rfl (by decide) (by decide) base v l.length _ hown p m.length cap (m.flatMap encML) (flatM_len m) hn (flatM_one m) hl hbase
  have hh := h v' w' (by unfold OwnM; rw [List.length_append, List.flatMap_append]; exact r1) r2
  refine wpList_plain hgd fun K hK => ?_
  unfold Oper.wp
  simp [execOp, ho, resolve, invoke, builtin, hs, hx, hrun, Result.andThen]
  exact hK _ _ hh
theorem turn_below {w w' : World} {base size n : Nat} {e : TypeId} {v v' : Value} {xs : List Value} (h : w.ownsRow base e size v n xs) (ht : Turn v v' w w') (hb : base ≤ w.heap.size) : Below base w w' :=
  (Below.refl base w).grown ht.1 hb (fun k ek => (h.lt k ek).1)
def OwnP (w : World) (B : Nat) (v : Value) (l : List Pr) : Prop := w.ownsRow B 71 3 v l.length (l.flatMap encP)

end Go.Proofs.YtfpcaoacbjhkgaaGreat
