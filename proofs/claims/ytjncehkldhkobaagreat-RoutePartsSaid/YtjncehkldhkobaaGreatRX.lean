/-
  Walks of package route: append, with what it writes told; what Ready keeps from round to round.
-/
import Derived.Test.YtjncehkldhkobaaGreatRW
namespace Go.Proofs.YtjncehkldhkobaaGreat
open Go.RowKit Go.Sort
set_option linter.unusedVariables false

theorem rows_apart {W : World} {base k n size size' : Nat} {e f : TypeId} (hef : e ≠ f) {u v : Value} {xs ys : List Value} (h : W.ownsRow base e size u k xs) (g : W.ownsRow base f size' v n ys) : ∀ j, u.ownBlock = some j → v.ownBlock ≠ some j := by
  intro j hj hk
  rcases h.2 with ⟨rfl, _⟩ | ⟨b1, cap, cur, rfl, _, hb1, _⟩
  · cases hj
  rcases g.2 with ⟨rfl, _⟩ | ⟨b2, cap2, cur2, rfl, _, hb2, _⟩
  · cases hk
  have e1 : b1 = j := Option.some.inj hj
  have e2 : b2 = j := Option.some.inj hk
  subst e1 e2
  rw [hb1] at hb2
  simp at hb2
  exact hef hb2.2
theorem own_apart {W : World} {base k n size size' : Nat} {e f : TypeId} (hef : e ≠ f) {u v : Value} {xs ys : List Value} (h : W.ownsRow base e size u k xs) (g : W.ownsRow base f size' v n ys) : u.ownBlock = none ∨ u.ownBlock ≠ v.ownBlock := by
  cases hu : u.ownBlock with
  | none => exact .inl rfl
  | some j => exact .inr fun e' => rows_apart hef h g j hu e'.symm
theorem blk_apart {W : World} {base n size b : Nat} {e f : TypeId} (hef : e ≠ f) {v : Value} {cs : Array Value} {ys : List Value} (h : Blk W b e cs) (g : W.ownsRow base f size v n ys) : v.ownBlock ≠ some b := by
  intro hk
  rcases g.2 with ⟨rfl, _⟩ | ⟨b2, cap2, cur2, rfl, _, hb2, _⟩
  · cases hk
  have e2 : b2 = b := Option.some.inj hk
  subst e2
  unfold Blk at h
  rw [hb2] at h
  simp at h
  exact hef h.2.symm

theorem append_turn {w : World} {ops : Array Oper} {rest : List Oper} {o : Oper} {a : Act} {Q : Exit → Act → World → Prop} (hgd : o.guard = none) (s x : Operand) (t e : TypeId) (i0 : TypeInfo) (z : Value) (size bytes : Nat)
    (ht : Tryz.prog.underlying t = some (.slice e)) (hi : Tryz.prog.info? e = some i0) (hz0 : i0.zero = some z) (hz1 : i0.size = size) (hz2 : i0.bytes = bytes) (hzs : z.cells.size = size) (hsz : 0 < size) (hby : bytes ≤ 1000)
    (ho : o.op = .call { callee := .builtin .append, args := #[s, x], argTypes := #[t, t] }) (base : Nat) (v : Value) (n : Nat) (xs : List Value) (hs : a.eval s = v) (hown : w.ownsRow base e size v n xs)
    (p : Option Addr) (m cap : Nat) (news : List Value) (hx : a.eval x = .slice p m cap) (hnl : news.length = m * size) (hp : m ≠ 0 → ∃ ad, p = some ad ∧ ∀ j u, news[j]? = some u → w.cell? (ad.add j) = some u) (h1 : ∀ u ∈ news, u.oneCell' = true)
    (hl : n + m ≤ 1000000000) (hbase : base ≤ w.heap.size)
    (h : ∀ v' w', w'.ownsRow base e size v' (n + m) (xs ++ news) → Turn v v' w w' → wpList Tryz.prog ops Q rest (a.put o.dst v') w') : wpList Tryz.prog ops Q (o :: rest) a w := by
  have hbytes : (n + m) * bytes ≤ 140737488355328 := Nat.le_trans (Nat.mul_le_mul hl hby) (by decide)
  refine wpList_plain hgd fun K hK => ?_
  obtain ⟨v', w', hrun, g1, g2⟩ : ∃ v' w', (Builtin.append_ #[t, t] o.type #[v, .slice p m cap]).run Tryz.prog w = .ok v' w' ∧ w'.ownsRow base e size v' (n + m) (xs ++ news) ∧ Turn v v' w w' := by
    cases p with
    | none =>
      have hm : m = 0 := by
        rcases Nat.eq_zero_or_pos m with h0 | h0
        · exact h0
        · obtain ⟨ad, h, _⟩ := hp (by omega)
          cases h
      subst hm
      have hn0 : news = [] := List.length_eq_zero_iff.1 (by simpa using hnl)
      subst hn0
      refine ⟨v, w, ?_, by simpa using hown, turn_refl _ _⟩
      rcases hown.2 with ⟨rfl, _⟩ | ⟨g, cap', cur, rfl, _, _, hnc, _⟩
      · simp [Builtin.append_, run_underlying ht, sizeOf, typeInfo, hi, Builtin.lenOf, Builtin.firstCells]
      · simp [Builtin.append_, run_underlying ht, sizeOf, typeInfo, hi, Builtin.lenOf, Builtin.firstCells, hnc, storeCells]
    | some ad =>
      have hnews : ∀ j u, news[j]? = some u → w.cell? (ad.add j) = some u := by
        by_cases hm : m = 0
        · have hn0 : news = [] := List.length_eq_zero_iff.1 (by rw [hnl, hm]; simp)
          subst hn0
          intro j u hj; simp at hj
        · obtain ⟨ad', e1, hc⟩ := hp hm
          cases e1
          exact hc
      by_cases hfit : ∃ g cap0, v = .slice (some ⟨g, 0, none⟩) n cap0 ∧ n + m ≤ cap0
      · obtain ⟨g, cap0, rfl, hc⟩ := hfit
        obtain ⟨w', r1, r2, r3⟩ := run_append_fits (P := Tryz.prog) w base t o.type e i0 size ht hi hz1 g n cap0 xs hown ad m cap news hnl hnews h1 hc
        exact ⟨_, w', r1, r2, ⟨r3, fun j hj => .inr hj⟩⟩
      · obtain ⟨v', w', r1, r2, r3, -⟩ := run_append_own (P := Tryz.prog) w base t o.type e i0 z size bytes ht hi hz0 hz1 hz2 hzs hsz v n xs hown ad m cap news hnl hnews h1 (by unfold maxLen; omega) hbytes hbase
        have hblk : ∀ j, v'.ownBlock = some j → w.heap.size ≤ j ∨ v.ownBlock = some j := by
          rcases hown.2 with ⟨hv, h0⟩ | ⟨g, cap0, cur, hv, hbg, hg, hnc, hcm, hcs, htake⟩
          · subst h0
            obtain ⟨v2, w2, q1, q2, -, -⟩ := run_append_own (P := Tryz.prog) w w.heap.size t o.type e i0 z size bytes ht hi hz0 hz1 hz2 hzs hsz v 0 xs ⟨hown.1, .inl ⟨hv, rfl⟩⟩ ad m cap news hnl hnews h1 (by unfold maxLen; omega) hbytes (Nat.le_refl _)
            have e := r1.symm.trans q1
            injection e with e1 e2
            subst e1
            exact fun j hj => .inl (q2.lt j hj).1
          · have holds : ∀ j u, xs[j]? = some u → w.cell? ((⟨g, 0, none⟩ : Addr).add j) = some u := hown.cells (g := g) (by rw [hv]; rfl)
            have hroom : cap0 < n + m := by
              rcases Nat.lt_or_ge cap0 (n + m) with h | h
              · exact h
              · exact absurd ⟨g, cap0, hv, h⟩ hfit
            have hr := run_append_grow (P := Tryz.prog) w t o.type e i0 z ht hi hz0 ⟨g, 0, none⟩ n cap0 xs (by rw [hz1]; exact hown.1) holds ad m cap news (by rw [hz1]; exact hnl) hnews hroom (by omega) (growslice_fits (by omega) (by rw [hz2]; exact hbytes))
            rw [← hv] at hr
            have e := r1.symm.trans hr
            injection e with e1 e2
            intro j hj
            rw [e1] at hj
            have h2 : w.heap.size = j := Option.some.inj hj
            exact .inl (by omega)
        exact ⟨v', w', r1, r2, ⟨r3, hblk⟩⟩
  unfold Oper.wp
  simp [execOp, ho, resolve, invoke, builtin, hs, hx, hrun, Result.andThen]
  exact hK _ _ (h v' w' g1 g2)
theorem append_msgsT {w : World} {ops : Array Oper} {rest : List Oper} {o : Oper} {a : Act} {Q : Exit → Act → World → Prop} (hgd : o.guard = none) (s x : Operand)
    (ho : o.op = .call { callee := .builtin .append, args := #[s, x], argTypes := #[25, 25] }) (base : Nat) (v : Value) (l : List Ms) (hs : a.eval s = v) (hown : OwnM w base v l)
    (u : Value) (m : List Ms) (hx : a.eval x = u) (hp : IsMsgs w u m) (hl : l.length + m.length ≤ 1000000000) (hbase : base ≤ w.heap.size)
    (h : ∀ v' w', OwnM w' base v' (l ++ m) → Turn v v' w w' → wpList Tryz.prog ops Q rest (a.put o.dst v') w') : wpList Tryz.prog ops Q (o :: rest) a w := by
  obtain ⟨i0, hi, hz0, hz1, hz2⟩ := info_parts infoM
  obtain ⟨p, cap, rfl, hlc, hcm, hpp⟩ := hp
  refine append_turn hgd s x 25 40 i0 (.agg #[.int .i64 0, .string ⟨#[]⟩, .string ⟨#[]⟩, .string ⟨#[]⟩, .string ⟨#[]⟩, .string ⟨#[]⟩, .string ⟨#[]⟩, .int .i64 0]) 8 112 Tryz.underlying25 hi hz0 hz1 hz2 rfl (by decide) (by decide) ho base v l.length _ hs hown p m.length cap (m.flatMap encML) hx (flatM_len m) ?_ (flatM_one m) hl hbase ?_
  · intro hm
    obtain ⟨b, off, rfl, hlt, hc⟩ := hpp (by rintro rfl; simp at hm)
    refine ⟨_, rfl, cells_at fun j u hj => ?_⟩
    have hj1 : j < m.length * 8 := by rw [← flatM_len]; exact (List.getElem?_eq_some_iff.1 hj).1
    have hi2 : j / 8 < m.length := by omega
    have g := flatM_get m (j / 8) (j % 8) hi2 (by omega)
    rw [show j / 8 * 8 + j % 8 = j by omega, hj] at g
    obtain ⟨c0, c1, c2, c3, c4, c5, c6, c7⟩ := hc (j / 8) hi2
    have e : ∀ k, j % 8 = k → off + j = off + j / 8 * 8 + k := fun k hk => by omega
    have hr : j % 8 = 0 ∨ j % 8 = 1 ∨ j % 8 = 2 ∨ j % 8 = 3 ∨ j % 8 = 4 ∨ j % 8 = 5 ∨ j % 8 = 6 ∨ j % 8 = 7 := by omega
    rcases hr with h | h | h | h | h | h | h | h
    all_goals
      rw [e _ h]
      rw [h] at g
      simp only [encML, List.getElem?_cons_zero, List.getElem?_cons_succ] at g
      rw [g]
      assumption
  · intro v' w' h2 h3
    refine h v' w' ?_ h3
    unfold OwnM
    rw [List.length_append, List.flatMap_append]; exact h2

/-- What goes, what stays and what is blocked lie in rows of their own. -/
structure RyS (w : World) (kb base : Nat) (s : Sp) (vg vs vb : Value) (G St : List Ms) (b : List Sp) (wr : World) : Prop where
  g : OwnM wr base vg G
  st : OwnM wr base vs St
  bl : wr.ownsRow base 38 2 vb b.length (b.flatMap encS)
  gs : ∀ j, vg.ownBlock = some j → vs.ownBlock ≠ some j
  kid : Blk wr kb 38 #[.string (Str s.1), .string (Str s.2)]
  bel : Below w.heap.size w wr
  lo : w.heap.size ≤ kb
  kb : kb < base
  size : base ≤ wr.heap.size
section
variable {w wr wy : World} {kb base : Nat} {s : Sp} {vg vs vb : Value} {G St : List Ms} {b : List Sp}
theorem RyS.below (h : RyS w kb base s vg vs vb G St b wr) (hb : Below wr.heap.size wr wy) : RyS w kb base s vg vs vb G St b wy :=
  ⟨h.g.below hb, h.st.below hb, owns_below h.bl hb, h.gs, h.kid.below hb h.kid.lt, h.bel.trans (hb.mono h.bel.size), h.lo, h.kb, Nat.le_trans h.size hb.size⟩
theorem RyS.row (h : RyS w kb base s vg vs vb G St b wr) {size n : Nat} {e : TypeId} {v v' : Value} {xs : List Value} (hv : wr.ownsRow base e size v n xs) (ht : Turn v v' wr wy) : Blk wy kb 38 #[.string (Str s.1), .string (Str s.2)] ∧ Below w.heap.size w wy ∧ base ≤ wy.heap.size := by
  have hlt := fun j hj => (hv.lt j hj).1
  have hb : Below base wr wy := Below.grown (Below.refl _ _) ht.1 h.size hlt
  have hk := h.kb
  have hl := h.lo
  exact ⟨h.kid.below hb hk, h.bel.trans (hb.mono (by omega)), Nat.le_trans h.size hb.size⟩
theorem keep_row {base size n size' n' : Nat} {e f : TypeId} {v v' u : Value} {xs ys : List Value} (hu : wr.ownsRow base f size' u n' ys) (ht : Turn v v' wr wy) (hne : ∀ j, u.ownBlock = some j → v.ownBlock ≠ some j) : wy.ownsRow base f size' u n' ys :=
  hu.kept ht.1 (by
    cases hx : u.ownBlock with
    | none => exact .inl rfl
    | some j => exact .inr fun e' => hne j hx e'.symm)
theorem RyS.setG (h : RyS w kb base s vg vs vb G St b wr) {vg' : Value} {G' : List Ms} (ho : OwnM wy base vg' G') (ht : Turn vg vg' wr wy) : RyS w kb base s vg' vs vb G' St b wy := by
  obtain ⟨k1, k2, k3⟩ := h.row h.g ht
  refine ⟨ho, keep_row (base := base) (size := 8) (n := 0) (e := 0) (xs := []) h.st ht (fun j hj hk => h.gs j hk hj), keep_row (base := base) (size := 8) (n := 0) (e := 0) (xs := []) h.bl ht (rows_apart (by decide) h.bl h.g), fun j hj hk => ?_, k1, k2, h.lo, h.kb, k3⟩
  rcases ht.2 j hj with h1 | h1
  · have := (h.st.lt j hk).2; omega
  · exact h.gs j h1 hk
theorem RyS.setS (h : RyS w kb base s vg vs vb G St b wr) {vs' : Value} {S' : List Ms} (ho : OwnM wy base vs' S') (ht : Turn vs vs' wr wy) : RyS w kb base s vg vs' vb G S' b wy := by
  obtain ⟨k1, k2, k3⟩ := h.row h.st ht
  refine ⟨keep_row (base := base) (size := 8) (n := 0) (e := 0) (xs := []) h.g ht h.gs, ho, keep_row (base := base) (size := 8) (n := 0) (e := 0) (xs := []) h.bl ht (rows_apart (by decide) h.bl h.st), fun j hj hk => ?_, k1, k2, h.lo, h.kb, k3⟩
  rcases ht.2 j hk with h1 | h1
  · have := (h.g.lt j hj).2; omega
  · exact h.gs j hj h1
theorem RyS.setB (h : RyS w kb base s vg vs vb G St b wr) {vb' : Value} {b' : List Sp} (ho : wy.ownsRow base 38 2 vb' b'.length (b'.flatMap encS)) (ht : Turn vb vb' wr wy) : RyS w kb base s vg vs vb' G St b' wy := by
  obtain ⟨k1, k2, k3⟩ := h.row h.bl ht
  exact ⟨keep_row (base := base) (size := 8) (n := 0) (e := 0) (xs := []) h.g ht (rows_apart (by decide) h.g h.bl), keep_row (base := base) (size := 8) (n := 0) (e := 0) (xs := []) h.st ht (rows_apart (by decide) h.st h.bl), ho, h.gs, k1, k2, h.lo, h.kb, k3⟩
end

/-! ### What fits, in the plain theory's words -/
def FullM (m : Ms) : Prop := ∀ x ∈ touchS m, emptyB x = false
def hitB (b : List Sp) (l : List Sp) : Bool := l.any fun x => decide (bfrom b x < bto b x)
theorem hit_eq {b : List Sp} (hb : OrdD b) {l : List Sp} (hl : ∀ x ∈ l, emptyB x = false) : hitB b l = touchB l b := by
  unfold hitB
  have : ∀ x ∈ l, decide (bfrom b x < bto b x) = touchB [x] b := fun x hx => meets_eq hb ((emptyB_no x).1 (hl x hx))
  have h2 : (l.any fun x => decide (bfrom b x < bto b x)) = l.any fun x => touchB [x] b := by
    rw [Bool.eq_iff_iff, List.any_eq_true, List.any_eq_true]
    exact ⟨fun ⟨x, hx, h⟩ => ⟨x, hx, by rw [← this x hx]; exact h⟩, fun ⟨x, hx, h⟩ => ⟨x, hx, by rw [this x hx]; exact h⟩⟩
  rw [h2]
  unfold touchB
  simp
theorem full_only {m : Ms} (h : FullM m) {s : Sp} (hm : meetB s (writesS m) = true) : FullM (onlyS m s) := by
  unfold onlyS
  cases hsp : hasSpB m with
  | false => rw [if_neg (by simp)]; exact h
  | true =>
    rw [if_pos rfl]
    have hw := writes_sp hsp
    rw [hw] at hm
    have he : emptyB (meetS (m.lo, m.hi) s) = false := by unfold meetB at hm; simpa using hm
    intro x hx
    unfold touchS at hx
    rcases List.mem_append.1 hx with hx | hx
    · have hr : readsS (setSp m (meetS (m.lo, m.hi) s)) = [] ∨ readsS (setSp m (meetS (m.lo, m.hi) s)) = [meetS (m.lo, m.hi) s] := by
        rcases (hasSp_iff m).1 hsp with h | h
        · left; unfold readsS; simp [setSp, h]
        · right; unfold readsS; simp [setSp, h]
      rcases hr with hr | hr <;> rw [hr] at hx
      · cases hx
      · obtain rfl := List.mem_singleton.1 hx; exact he
    · rw [writes_set hsp] at hx
      obtain rfl := List.mem_singleton.1 hx; exact he
theorem fitN_full {m : Ms} (h : FullM m) (s : Sp) : ∀ x ∈ fitN m s, emptyB x = false := by
  unfold fitN
  split
  · exact h
  · unfold partR
    split
    · rename_i hm
      intro x hx
      simp only [List.flatMap_cons, List.flatMap_nil, List.append_nil] at hx
      exact full_only h hm x hx
    · intro x hx; cases hx
theorem fitN_len (m : Ms) (s : Sp) : (fitN m s).length ≤ 4 := by
  unfold fitN
  split
  · exact touch_len m
  · have h := flat_len4 touchS touch_len (partR m s)
    have := partR_one m s
    omega
theorem only_moves_no {m : Ms} (h : movesB m = false) (s : Sp) : movesB (onlyS m s) = false := by
  have := only_kind m s
  unfold movesB at h ⊢; rw [this]; exact h
theorem fit_goes {m : Ms} (h : FullM m) (s : Sp) {b B : List Sp} (hb : OrdD b) (hk : ∀ k, inB b k = inB B k) : goesB s B m = (!(fitP m s).isEmpty && !hitB b (fitN m s)) := by
  rw [hit_eq hb (fitN_full h s)]
  unfold goesB fitP fitN
  cases hm : movesB m with
  | true =>
    simp only [↓reduceIte]
    rw [touch_eq (fun k => rfl) (fun k => (hk k).symm)]
    cases liesB m s <;> simp
  | false =>
    simp only [Bool.false_eq_true, ↓reduceIte]
    unfold partR
    cases hp : meetB s (writesS m) with
    | false => simp
    | true =>
      simp only [↓reduceIte, List.flatMap_cons, List.flatMap_nil, List.append_nil, List.isEmpty_cons, Bool.not_false, Bool.true_and]
      rw [touch_eq (fun k => (touch_plain (only_moves_no hm s) k).symm) (fun k => (hk k).symm)]
theorem fit_blocks (m : Ms) (s : Sp) (k : Bs) : inB (fitN m s) k = inB (blocksS s m) k := by
  unfold fitN blocksS
  cases hm : movesB m with
  | true => rfl
  | false =>
    simp only [Bool.false_eq_true, ↓reduceIte]
    unfold partR
    cases hp : meetB s (writesS m) with
    | false => rfl
    | true =>
      simp only [↓reduceIte, List.flatMap_cons, List.flatMap_nil, List.append_nil]
      exact touch_plain (only_moves_no hm s) k
theorem fit_part {m : Ms} {s : Sp} (h : (fitP m s).isEmpty = false) : fitP m s = [onlyS m s] := by
  unfold fitP at h ⊢
  cases hm : movesB m with
  | true =>
    rw [hm] at h
    simp only [↓reduceIte] at h ⊢
    rw [only_moves hm]
    cases hl : liesB m s with
    | true => rfl
    | false => rw [hl] at h; simp at h
  | false =>
    rw [hm] at h
    simp only [Bool.false_eq_true, ↓reduceIte] at h ⊢
    unfold partR at h ⊢
    cases hp : meetB s (writesS m) with
    | true => rfl
    | false => rw [hp] at h; simp at h
theorem step_go {s : Sp} {w : Wy} {m : Ms} (h : goesB s w.2.2 m = true) : stepR s w m = (w.1 ++ [onlyS m s], w.2.1 ++ restR m s, w.2.2) := by unfold stepR; rw [if_pos h]; rfl
theorem step_stay {s : Sp} {w : Wy} {m : Ms} (h : goesB s w.2.2 m = false) : stepR s w m = (w.1, w.2.1 ++ [m], w.2.2 ++ blocksS s m) := by unfold stepR; rw [if_neg (by rw [h]; simp)]; rfl
theorem ready_lens (s : Sp) (l : List Ms) : ∀ k, k ≤ l.length → (readyW s (l.take k)).1.length ≤ k ∧ (readyW s (l.take k)).2.1.length ≤ 2 * k
  | 0, _ => by rw [List.take_zero]; exact ⟨Nat.le_refl _, Nat.le_refl _⟩
  | k + 1, h => by
    obtain ⟨h1, h2⟩ := ready_lens s l k (by omega)
    rw [ready_take s l k h]
    cases hg : goesB s (readyW s (l.take k)).2.2 l[k] with
    | true =>
      rw [step_go hg]
      have := restR_len l[k] s
      simp only [List.length_append, List.length_cons, List.length_nil]
      omega
    | false =>
      rw [step_stay hg]
      simp only [List.length_append, List.length_cons, List.length_nil]
      omega

end Go.Proofs.YtjncehkldhkobaaGreat
