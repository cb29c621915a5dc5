/-
  Rows of spans under the name keys: taken apart, appended to, and told by their cells.
-/
import Derived.Test.YtfpcaoacbjhkgaaGreatRG
namespace Go.Proofs.YtfpcaoacbjhkgaaGreat
open Go.RowKit Go.Sort
set_option linter.unusedVariables false

theorem sizeSp : (Tryz.prog.info? 38).map (·.size) = some 2 := by
  have h := infoS
  cases hq : Tryz.prog.info? 38 with
  | none => rw [hq] at h; simp at h
  | some i => rw [hq] at h; simp at h; simp [h.2.1]
/-- The row of a slice that the call owns. -/
theorem own_row {w : World} {base g n cap : Nat} {l : List Sp} (h : w.ownsRow base 38 2 (.slice (some ⟨g, 0, none⟩) n cap) n (l.flatMap encS)) :
    ∃ cur : List Value, w.heap[g]? = some (.cells cur.toArray 38 (0, 0)) ∧ cur.length = cap * 2 ∧ cur.take (n * 2) = l.flatMap encS ∧ base ≤ g ∧ n ≤ cap ∧ cap ≤ maxLen ∧ n = l.length := by
  have hl := h.1
  rw [flatS_len] at hl
  rcases h.2 with ⟨h', _⟩ | ⟨g', cap', cur, h', hb, hg, hn, hm, hs, ht⟩
  · cases h'
  · injection h' with h1 h2 h3
    injection h1 with h1
    injection h1 with h1
    subst h1 h3
    exact ⟨cur.toList, by simpa using hg, by simpa using hs, ht, hb, hn, hm, by omega⟩
theorem row_own {w : World} {base g n cap : Nat} {l : List Sp} {cur : List Value} (hg : w.heap[g]? = some (.cells cur.toArray 38 (0, 0))) (hs : cur.length = cap * 2) (ht : cur.take (n * 2) = l.flatMap encS) (hb : base ≤ g) (hn : n ≤ cap) (hm : cap ≤ maxLen) (hl : n = l.length) :
    w.ownsRow base 38 2 (.slice (some ⟨g, 0, none⟩) n cap) n (l.flatMap encS) :=
  ⟨by rw [flatS_len, hl], .inr ⟨g, cap, cur.toArray, rfl, hb, hg, hn, hm, by simpa using hs, by simpa using ht⟩⟩
theorem flatS_take (l : List Sp) (i : Nat) : (l.take i).flatMap encS = (l.flatMap encS).take (i * 2) := by
  induction l generalizing i with
  | nil => simp
  | cons s l ih =>
    have e : ∀ (t : Sp) r, (t :: r).flatMap encS = .string (Str t.1) :: .string (Str t.2) :: r.flatMap encS := fun t r => rfl
    cases i with
    | zero => simp
    | succ i =>
      rw [List.take_succ_cons, e, e, ih, show (i + 1) * 2 = i * 2 + 1 + 1 by omega]
      rfl
theorem flatS_drop (l : List Sp) (i : Nat) : (l.drop i).flatMap encS = (l.flatMap encS).drop (i * 2) := by
  induction l generalizing i with
  | nil => simp
  | cons s l ih =>
    have e : ∀ (t : Sp) r, (t :: r).flatMap encS = .string (Str t.1) :: .string (Str t.2) :: r.flatMap encS := fun t r => rfl
    cases i with
    | zero => simp
    | succ i =>
      rw [List.drop_succ_cons, e, ih, show (i + 1) * 2 = i * 2 + 1 + 1 by omega]
      rfl
theorem owns_take {w : World} {base g n cap : Nat} {l : List Sp} (h : w.ownsRow base 38 2 (.slice (some ⟨g, 0, none⟩) n cap) n (l.flatMap encS)) (i : Nat) (hi : i ≤ n) :
    w.ownsRow base 38 2 (.slice (some ⟨g, 0, none⟩) i cap) i ((l.take i).flatMap encS) := by
  obtain ⟨cur, h1, h2, h3, h4, h5, h6, h7⟩ := own_row h
  refine row_own h1 h2 ?_ h4 (by omega) h6 (by rw [List.length_take]; omega)
  rw [flatS_take, ← h3, List.take_take, Nat.min_eq_left (by omega)]
/-- Cells of a row from an element on. -/
theorem row_cells {w : World} {g : Nat} {cur : List Value} (hg : w.heap[g]? = some (.cells cur.toArray 38 (0, 0))) (o : Nat) (j : Nat) (u : Value) (h : (cur.drop o)[j]? = some u) : w.cell? ((⟨g, o, none⟩ : Addr).add j) = some u := by
  rw [List.getElem?_drop] at h
  have e : (⟨g, o, none⟩ : Addr).add j = ⟨g, o + j, none⟩ := by unfold Addr.add; split <;> simp_all
  rw [e]
  unfold World.cell?
  rw [hg]
  simpa using h
theorem append_named {P : Program} (t u e : TypeId) (ht : P.underlying t = some (.slice e)) (hu : P.underlying u = some (.slice e)) (ty : TypeId) (v x : Value) (w : World) : (Builtin.append_ #[t, u] ty #[v, x]).run P w = (Builtin.append_ #[u, u] ty #[v, x]).run P w := by
  unfold Builtin.append_
  simp [run_underlying ht, run_underlying hu]
theorem append_ty (ty : TypeId) (v u : Value) (w : World) : (Builtin.append_ #[108, 29] ty #[v, u]).run Tryz.prog w = (Builtin.append_ #[29, 29] ty #[v, u]).run Tryz.prog w :=
  append_named _ _ _ Tryz.underlying108 Tryz.underlying29 ty v u w
theorem grownBy_refl (w : World) (row : Option Nat) : w.grownBy w row := ⟨rfl, rfl, rfl, Nat.le_refl _, fun _ _ _ => rfl⟩
theorem grownBy_below {w w' : World} (h : Below w.heap.size w w') (row : Option Nat) : w.grownBy w' row := ⟨h.os, h.tape, h.output, h.size, fun i hi _ => h.block i hi⟩
theorem grownBy_own {w w' : World} {base g : Nat} (h : Below base w w') (ho : ∀ b, b ≠ g → w'.heap[b]? = w.heap[b]?) : w.grownBy w' (some g) := ⟨h.os, h.tape, h.output, h.size, fun i _ hne => ho i fun e => hne (by rw [e])⟩
/-- A slice that the call owns, changed or moved; nothing else is touched. -/
def Turn (v v' : Value) (w w' : World) : Prop := w.grownBy w' v.ownBlock ∧ ∀ j, v'.ownBlock = some j → w.heap.size ≤ j ∨ v.ownBlock = some j
theorem turn_refl (v : Value) (w : World) : Turn v v w w := ⟨grownBy_refl _ _, fun j hj => .inr hj⟩
theorem turn_new {w w' : World} (h : Below w.heap.size w w') (v : Value) (n c : Nat) : Turn v (.slice (some ⟨w.heap.size, 0, none⟩) n c) w w' := ⟨grownBy_below h _, fun j hj => .inl (by have h2 : w.heap.size = j := Option.some.inj hj; omega)⟩
theorem turn_own {w w' : World} {base g : Nat} (h : Below base w w') (ho : ∀ b, b ≠ g → w'.heap[b]? = w.heap[b]?) (n c n' c' : Nat) : Turn (.slice (some ⟨g, 0, none⟩) n c) (.slice (some ⟨g, 0, none⟩) n' c') w w' := ⟨grownBy_own h ho, fun j hj => .inr hj⟩
theorem Turn.trans {a b c : World} {u v x : Value} (h : Turn u v a b) (k : Turn v x b c) : Turn u x a c :=
  ⟨h.1.andThen k.1 h.2, fun j hj => by
    rcases k.2 j hj with h1 | h1
    · exact .inl (Nat.le_trans h.1.size h1)
    · exact h.2 j h1⟩
set_option maxRecDepth 100000 in
theorem append_dead {w : World} {ops : Array Oper} {rest : List Oper} {o : Oper} {a : Act} {Q : Exit → Act → World → Prop} (hgd : o.guard = none) (s x : Operand)
    (ho : o.op = .call { callee := .builtin .append, args := #[s, x], argTypes := #[108, 29] }) (base : Nat) (v : Value) (l : List Sp) (n : Nat) (hs : a.eval s = v) (hown : w.ownsRow base 38 2 v n (l.flatMap encS))
    (base2 : Nat) (u : Value) (m : List Sp) (hx : a.eval x = u) (hp : w.ownsRow base2 38 2 u m.length (m.flatMap encS)) (hl : n + m.length ≤ 1000000000) (hbase : base ≤ w.heap.size)
    (h : ∀ v' w', w'.ownsRow base 38 2 v' (n + m.length) ((l ++ m).flatMap encS) → Turn v v' w w' → (∀ g cap, v = .slice (some ⟨g, 0, none⟩) n cap → n + m.length ≤ cap → v' = .slice (some ⟨g, 0, none⟩) (n + m.length) cap) → wpList Tryz.prog ops Q rest (a.put o.dst v') w') : wpList Tryz.prog ops Q (o :: rest) a w := by
  obtain ⟨i0, hi, hz0, hz1, hz2⟩ := info_parts infoS
  refine wpList_plain hgd fun K hK => ?_
  obtain ⟨v', w', hrun, h1, h2, h3⟩ : ∃ v' w', (Builtin.append_ #[29, 29] o.type #[v, u]).run Tryz.prog w = .ok v' w' ∧ w'.ownsRow base 38 2 v' (n + m.length) ((l ++ m).flatMap encS) ∧ Turn v v' w w' ∧
      (∀ g cap, v = .slice (some ⟨g, 0, none⟩) n cap → n + m.length ≤ cap → v' = .slice (some ⟨g, 0, none⟩) (n + m.length) cap) := by
    rcases hp.2 with ⟨rfl, h0⟩ | ⟨gu, capu, curu, rfl, hbu, hgu, hnu, hmu, hsu, htu⟩
    · have hm0 : m = [] := List.length_eq_zero_iff.1 h0
      subst hm0
      refine ⟨v, w, run_append_owned_none (P := Tryz.prog) (w := w) base 29 o.type 38 i0 2 Tryz.underlying29 hi v n _ hown, by simpa using hown, turn_refl _ _, fun g cap hv _ => by simpa using hv⟩
    · have hnews : ∀ j u, (m.flatMap encS)[j]? = some u → w.cell? ((⟨gu, 0, none⟩ : Addr).add j) = some u := fun j u hj => hp.cells (g := gu) rfl j u hj
      by_cases hfit : ∃ g cap, v = .slice (some ⟨g, 0, none⟩) n cap ∧ n + m.length ≤ cap
      · obtain ⟨g, cap, rfl, hc⟩ := hfit
        obtain ⟨w', r1, r2, r3⟩ := run_append_fits (P := Tryz.prog) w base 29 o.type 38 i0 2 Tryz.underlying29 hi hz1 g n cap (l.flatMap encS) hown ⟨gu, 0, none⟩ m.length capu (m.flatMap encS) (flatS_len m) hnews (flatS_one m) hc
        refine ⟨_, w', r1, by rw [List.flatMap_append]; exact r2, ⟨r3, fun j hj => .inr hj⟩, fun g' cap' he _ => ?_⟩
        injection he with e1 e2 e3
        injection e1 with e1
        injection e1 with e1
        rw [e1, e3]
      · obtain ⟨v', w', r1, r2, r3, -⟩ := run_append_own (P := Tryz.prog) w base 29 o.type 38 i0 (.agg #[.string ⟨#[]⟩, .string ⟨#[]⟩]) 2 32 Tryz.underlying29 hi hz0 hz1 hz2 rfl (by decide) v n (l.flatMap encS) hown ⟨gu, 0, none⟩ m.length capu (m.flatMap encS) (flatS_len m) hnews (flatS_one m) (by unfold maxLen; omega) (by omega) hbase
        have hblk : ∀ j, v'.ownBlock = some j → w.heap.size ≤ j ∨ v.ownBlock = some j := by
          rcases hown.2 with ⟨hv, h0⟩ | ⟨g, cap, cur, hv, hbg, hg, hnc, hcm, hcs, htake⟩
          · subst h0
            obtain ⟨v2, w2, q1, q2, -, -⟩ := run_append_own (P := Tryz.prog) w w.heap.size 29 o.type 38 i0 (.agg #[.string ⟨#[]⟩, .string ⟨#[]⟩]) 2 32 Tryz.underlying29 hi hz0 hz1 hz2 rfl (by decide) v 0 (l.flatMap encS) ⟨hown.1, .inl ⟨hv, rfl⟩⟩ ⟨gu, 0, none⟩ m.length capu (m.flatMap encS) (flatS_len m) hnews (flatS_one m) (by unfold maxLen; omega) (by omega) (Nat.le_refl _)
            have e := r1.symm.trans q1
            injection e with e1 e2
            subst e1
            exact fun j hj => .inl (q2.lt j hj).1
          · have holds : ∀ j u, (l.flatMap encS)[j]? = some u → w.cell? ((⟨g, 0, none⟩ : Addr).add j) = some u := hown.cells (g := g) (by rw [hv]; rfl)
            have hroom : cap < n + m.length := by
              rcases Nat.lt_or_ge cap (n + m.length) with h | h
              · exact h
              · exact absurd ⟨g, cap, hv, h⟩ hfit
            have hr := run_append_grow (P := Tryz.prog) w 29 o.type 38 i0 (.agg #[.string ⟨#[]⟩, .string ⟨#[]⟩]) Tryz.underlying29 hi hz0 ⟨g, 0, none⟩ n cap (l.flatMap encS) (by rw [hz1]; exact hown.1) holds ⟨gu, 0, none⟩ m.length capu (m.flatMap encS) (by rw [hz1]; exact flatS_len m) hnews hroom (by omega) (growslice_fits (by omega) (by rw [hz2]; omega))
            rw [← hv] at hr
            have e := r1.symm.trans hr
            injection e with e1 e2
            intro j hj
            rw [e1] at hj
            have h2 : w.heap.size = j := Option.some.inj hj
            exact .inl (by omega)
        refine ⟨v', w', r1, by rw [List.flatMap_append]; exact r2, ⟨r3, hblk⟩, fun g' cap' he hc => absurd ⟨g', cap', he, hc⟩ hfit⟩
  unfold Oper.wp
  simp [execOp, ho, resolve, invoke, builtin, hs, hx, append_ty, hrun, Result.andThen]
  exact hK _ _ (h v' w' h1 h2 h3)
set_option maxRecDepth 100000 in
/-- 'append(s, make(..)...)' where s has no room: a row behind all that there is. -/
theorem append_zeros {w : World} {ops : Array Oper} {rest : List Oper} {o : Oper} {a : Act} {Q : Exit → Act → World → Prop} (hgd : o.guard = none) (s x : Operand)
    (ho : o.op = .call { callee := .builtin .append, args := #[s, x], argTypes := #[108, 3] }) (base g n cap : Nat) (l : List Sp) (hs : a.eval s = .slice (some ⟨g, 0, none⟩) n cap) (hown : w.ownsRow base 38 2 (.slice (some ⟨g, 0, none⟩) n cap) n (l.flatMap encS))
    (k : Nat) (hx : a.eval x = .int .i64 k) (hk : 0 < k) (hg : cap < n + k) (hl : n + k ≤ 1000000000)
    (h : ∀ w' cap' (cur : List Value), n + k ≤ cap' → cap' ≤ maxLen → cur.length = cap' * 2 → cur.take (n * 2) = l.flatMap encS → Hid (w'.heap[w.heap.size]? = some (.cells cur.toArray 38 (0, 0))) → Below w.heap.size w w' → w'.heap.size = w.heap.size + 1 → wpList Tryz.prog ops Q rest (a.put o.dst (.slice (some ⟨w.heap.size, 0, none⟩) (n + k) cap')) w') : wpList Tryz.prog ops Q (o :: rest) a w := by
  obtain ⟨i0, hi, hz0, hz1, hz2⟩ := info_parts infoS
  obtain ⟨cur0, c1, c2, c3, c4, c5, c6, c7⟩ := own_row hown
  refine wpList_plain hgd fun K hK => ?_
  have hcells : ∀ j u, (l.flatMap encS)[j]? = some u → w.drew.cell? ((⟨g, 0, none⟩ : Addr).add j) = some u := fun j u hj => hown.cells (g := g) rfl j u hj
  have hfc := run_firstCells_some (P := Tryz.prog) (w := w.drew) 2 n ⟨g, 0, none⟩ n cap (l.flatMap encS) (by rw [flatS_len, c7]) hcells
  have hnx : Builtin.nextslicecap (n + k) cap ≤ 2 * (n + k) := nextslicecap_le hg
  have hrun := Go.Lib.run_append_grow_zeros (P := Tryz.prog) w 108 3 o.type 38 i0 (.agg #[.string ⟨#[]⟩, .string ⟨#[]⟩]) .i64 .i64 Tryz.underlying108 Tryz.underlying3 hi hz0 (some ⟨g, 0, none⟩) n cap (l.flatMap encS) (by rw [hz1]; exact hfc) k hk (by omega) hg (by omega) (by rw [hz2]; omega) (by rw [hz2]; omega)
  unfold Oper.wp
  simp [execOp, ho, resolve, invoke, builtin, hs, hx, hrun, Result.andThen]
  have hcap := grownCap_ge w (n + k) cap 38
  have hcm := grownCap_le_maxLen w (n + k) cap 38 (by unfold maxLen; omega)
  generalize grownCap w (n + k) cap 38 = cp at *
  refine hK _ _ (h _ cp ((l.flatMap encS) ++ (Builtin.zeroCells (Value.agg #[.string ⟨#[]⟩, .string ⟨#[]⟩]).cells k).toList ++ (Builtin.zeroCells (Value.agg #[.string ⟨#[]⟩, .string ⟨#[]⟩]).cells (cp - (n + k))).toList) hcap hcm ?_ ?_ (Lib.hid ?_) ?_ ?_)
  · have e : (Value.agg #[.string ⟨#[]⟩, .string ⟨#[]⟩]).cells.size = 2 := rfl
    rw [List.length_append, List.length_append, zeros_len, zeros_len, flatS_len, e]; omega
  · rw [List.append_assoc, List.take_append_of_le_length (by rw [flatS_len]; omega), List.take_of_length_le (by rw [flatS_len]; omega)]
  · refine (heap_alloc_new w.drew _).trans ?_
    simp
  · exact (show Below w.heap.size w w.drew from below_drewN w 1).alloc (Nat.le_refl _) _
  · simp

end Go.Proofs.YtfpcaoacbjhkgaaGreat
