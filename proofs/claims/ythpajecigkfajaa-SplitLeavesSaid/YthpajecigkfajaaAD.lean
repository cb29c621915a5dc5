/-
  Appends of any element type where only the row itself is written; rows of nodes; lists as rows and back.
-/
import Derived.Test.YthpajecigkfajaaAC
namespace Go.Proofs.Ythpajecigkfajaa
open Go.RowKit Go.Sort
set_option linter.unusedVariables false

theorem grownBy_refl (w : World) (row : Option Nat) : w.grownBy w row := ⟨rfl, rfl, rfl, Nat.le_refl _, fun _ _ _ => rfl⟩
/-- A slice that the call owns, changed or moved; nothing else is touched. -/
def Turn (v v' : Value) (w w' : World) : Prop := w.grownBy w' v.ownBlock ∧ ∀ j, v'.ownBlock = some j → w.heap.size ≤ j ∨ v.ownBlock = some j
theorem turn_refl (v : Value) (w : World) : Turn v v w w := ⟨grownBy_refl _ _, fun j hj => .inr hj⟩
theorem turn_below {w w' : World} {base size n : Nat} {e : TypeId} {v v' : Value} {xs : List Value} (h : w.ownsRow base e size v n xs) (ht : Turn v v' w w') (hb : base ≤ w.heap.size) : Below base w w' :=
  (Below.refl base w).grown ht.1 hb (fun k ek => (h.lt k ek).1)
theorem run_turn {w : World} (t e ty : TypeId) (i0 : TypeInfo) (z : Value) (size bytes : Nat)
    (ht : Try.prog.underlying t = some (.slice e)) (hi : Try.prog.info? e = some i0) (hz0 : i0.zero = some z) (hz1 : i0.size = size) (hz2 : i0.bytes = bytes) (hzs : z.cells.size = size) (hsz : 0 < size) (hby : bytes ≤ 1000)
    (base : Nat) (v : Value) (n : Nat) (xs : List Value) (hown : w.ownsRow base e size v n xs)
    (p : Option Addr) (m cap : Nat) (news : List Value) (hnl : news.length = m * size) (hp : m ≠ 0 → ∃ ad, p = some ad ∧ ∀ j u, news[j]? = some u → w.cell? (ad.add j) = some u) (h1 : ∀ u ∈ news, u.oneCell' = true)
    (hl : n + m ≤ 1000000000) (hbase : base ≤ w.heap.size) :
    ∃ v' w', (Builtin.append_ #[t, t] ty #[v, .slice p m cap]).run Try.prog w = .ok v' w' ∧ w'.ownsRow base e size v' (n + m) (xs ++ news) ∧ Turn v v' w w' := by
  have hbytes : (n + m) * bytes ≤ 140737488355328 := Nat.le_trans (Nat.mul_le_mul hl hby) (by decide)
  cases p with
  | none =>
    have hm : m = 0 := by
      rcases Nat.eq_zero_or_pos m with h0 | h0
      · exact h0
      · obtain ⟨ad, h, _⟩ := hp (by omega)
        cases h
    subst hm
    have hn0 : news = [] := List.length_eq_zero_iff.1 (by simpa using hnl)
    subst hn0
    refine ⟨v, w, ?_, by simpa using hown, turn_refl _ _⟩
    rcases hown.2 with ⟨rfl, _⟩ | ⟨g, cap', cur, rfl, _, _, hnc, _⟩
    · simp [Builtin.append_, run_underlying ht, sizeOf, typeInfo, hi, Builtin.lenOf, Builtin.firstCells]
    · simp [Builtin.append_, run_underlying ht, sizeOf, typeInfo, hi, Builtin.lenOf, Builtin.firstCells, hnc, storeCells]
  | some ad =>
    have hnews : ∀ j u, news[j]? = some u → w.cell? (ad.add j) = some u := by
      by_cases hm : m = 0
      · have hn0 : news = [] := List.length_eq_zero_iff.1 (by rw [hnl, hm]; simp)
        subst hn0
        intro j u hj; simp at hj
      · obtain ⟨ad', e1, hc⟩ := hp hm
        cases e1
        exact hc
    by_cases hfit : ∃ g cap0, v = .slice (some ⟨g, 0, none⟩) n cap0 ∧ n + m ≤ cap0
    · obtain ⟨g, cap0, rfl, hc⟩ := hfit
      obtain ⟨w', r1, r2, r3⟩ := run_append_fits (P := Try.prog) w base t ty e i0 size ht hi hz1 g n cap0 xs hown ad m cap news hnl hnews h1 hc
      exact ⟨_, w', r1, r2, ⟨r3, fun j hj => .inr hj⟩⟩
    · obtain ⟨v', w', r1, r2, r3, -⟩ := run_append_own (P := Try.prog) w base t ty e i0 z size bytes ht hi hz0 hz1 hz2 hzs hsz v n xs hown ad m cap news hnl hnews h1 (by unfold maxLen; omega) hbytes hbase
      have hblk : ∀ j, v'.ownBlock = some j → w.heap.size ≤ j ∨ v.ownBlock = some j := by
        rcases hown.2 with ⟨hv, h0⟩ | ⟨g, cap0, cur, hv, hbg, hg, hnc, hcm, hcs, htake⟩
        · subst h0
          obtain ⟨v2, w2, q1, q2, -, -⟩ := run_append_own (P := Try.prog) w w.heap.size t ty e i0 z size bytes ht hi hz0 hz1 hz2 hzs hsz v 0 xs ⟨hown.1, .inl ⟨hv, rfl⟩⟩ ad m cap news hnl hnews h1 (by unfold maxLen; omega) hbytes (Nat.le_refl _)
          have e := r1.symm.trans q1
          injection e with e1 e2
          subst e1
          exact fun j hj => .inl (q2.lt j hj).1
        · have holds : ∀ j u, xs[j]? = some u → w.cell? ((⟨g, 0, none⟩ : Addr).add j) = some u := hown.cells (g := g) (by rw [hv]; rfl)
          have hroom : cap0 < n + m := by
            rcases Nat.lt_or_ge cap0 (n + m) with h | h
            · exact h
            · exact absurd ⟨g, cap0, hv, h⟩ hfit
          have hr := run_append_grow (P := Try.prog) w t ty e i0 z ht hi hz0 ⟨g, 0, none⟩ n cap0 xs (by rw [hz1]; exact hown.1) holds ad m cap news (by rw [hz1]; exact hnl) hnews hroom (by omega) (growslice_fits (by omega) (by rw [hz2]; exact hbytes))
          rw [← hv] at hr
          have e := r1.symm.trans hr
          injection e with e1 e2
          intro j hj
          rw [e1] at hj
          have h2 : w.heap.size = j := Option.some.inj hj
          exact .inl (by omega)
      exact ⟨v', w', r1, r2, ⟨r3, hblk⟩⟩
theorem step_turn {ops : Array Oper} {o : Oper} {a : Act} {w : World} {K : Act → World → Prop} {Q : Exit → Act → World → Prop} {E : Prop} (hg : o.guard = none) (s x : Operand) (t e : TypeId) (i0 : TypeInfo) (z : Value) (size bytes : Nat)
    (ht : Try.prog.underlying t = some (.slice e)) (hi : Try.prog.info? e = some i0) (hz0 : i0.zero = some z) (hz1 : i0.size = size) (hz2 : i0.bytes = bytes) (hzs : z.cells.size = size) (hsz : 0 < size) (hby : bytes ≤ 1000)
    (hop : o.op = .call { callee := .builtin .append, args := #[s, x], argTypes := #[t, t] }) (base : Nat) (v : Value) (n : Nat) (xs : List Value) (hs : a.eval s = v) (hown : w.ownsRow base e size v n xs)
    (p : Option Addr) (m cap : Nat) (news : List Value) (hx : a.eval x = .slice p m cap) (hnl : news.length = m * size) (hp : m ≠ 0 → ∃ ad, p = some ad ∧ ∀ j u, news[j]? = some u → w.cell? (ad.add j) = some u) (h1 : ∀ u ∈ news, u.oneCell' = true)
    (hl : n + m ≤ 1000000000) (hbase : base ≤ w.heap.size)
    (hK : ∀ v' w', w'.ownsRow base e size v' (n + m) (xs ++ news) → Turn v v' w w' → K (a.put o.dst v') w') : if Region.wanted o (yielded ops a.tmps) = true then Oper.wp Try.prog o a w K Q else E := by
  have hw : Region.wanted o (yielded ops a.tmps) = true := by simp [Region.wanted, hg]
  rw [if_pos hw]
  obtain ⟨v', w', hrun, r1, r2⟩ := run_turn t e o.type i0 z size bytes ht hi hz0 hz1 hz2 hzs hsz hby base v n xs hown p m cap news hnl hp h1 hl hbase
  unfold Oper.wp
  simp [execOp, hop, resolve, invoke, builtin, hs, hx, hrun, Result.andThen]
  exact hK v' w' r1 r2
theorem any_news {α : Type} {en : α → List Value} {k : Nat} (hen : ∀ x, (en x).length = k) {w : World} {u : Value} {m : List α} (hp : IsAny en k w u m) :
    ∃ p cap, u = .slice p m.length cap ∧ (m.length ≠ 0 → ∃ ad, p = some ad ∧ ∀ j u, (m.flatMap en)[j]? = some u → w.cell? (ad.add j) = some u) := by
  obtain ⟨p, cap, rfl, hpp⟩ := hp
  refine ⟨p, cap, rfl, fun hm => ?_⟩
  obtain ⟨b, off, rfl, hc⟩ := hpp (by rintro rfl; simp at hm)
  refine ⟨_, rfl, cells_at fun j u hj => ?_⟩
  obtain ⟨i, r, hi', rfl, hu⟩ := flat_any hen m j u hj
  rw [← Nat.add_assoc]
  exact hc i hi' r u hu
theorem flat_oc {α : Type} {en : α → List Value} (h1 : ∀ y, ∀ u ∈ en y, u.oneCell' = true) (m : List α) : ∀ u ∈ m.flatMap en, u.oneCell' = true := fun u hu => by
  obtain ⟨y, _, hy⟩ := List.mem_flatMap.1 hu
  exact h1 y u hy
/-- An append of a list to a row of the call's own: the row alone is written. -/
theorem append_anyT {α : Type} {en : α → List Value} {w : World} {ops : Array Oper} {rest : List Oper} {o : Oper} {a : Act} {Q : Exit → Act → World → Prop} (hgd : o.guard = none) (s x : Operand) (t e : TypeId) (z : Value) (k bytes : Nat)
    (info : (Try.prog.info? e).map (fun i => (i.zero, i.size, i.bytes)) = some (some z, k, bytes)) (ht : Try.prog.underlying t = some (.slice e)) (hzs : z.cells.size = k) (hk : 0 < k) (hby : bytes ≤ 1000) (hen : ∀ y, (en y).length = k) (h1 : ∀ y, ∀ u ∈ en y, u.oneCell' = true)
    (ho : o.op = .call { callee := .builtin .append, args := #[s, x], argTypes := #[t, t] }) (base : Nat) (v : Value) (l : List α) (hs : a.eval s = v) (hown : w.ownsRow base e k v l.length (l.flatMap en))
    (u : Value) (m : List α) (hx : a.eval x = u) (hp : IsAny en k w u m) (hl : l.length + m.length ≤ 1000000000) (hbase : base ≤ w.heap.size)
    (h : ∀ v' w', w'.ownsRow base e k v' (l ++ m).length ((l ++ m).flatMap en) → Turn v v' w w' → wpList Try.prog ops Q rest (a.put o.dst v') w') : wpList Try.prog ops Q (o :: rest) a w := by
  obtain ⟨i0, hi, hz0, hz1, hz2⟩ := info_parts info
  obtain ⟨p, cap, rfl, hn⟩ := any_news hen hp
  obtain ⟨v', w', hrun, r1, r2⟩ := run_turn t e o.type i0 z k bytes ht hi hz0 hz1 hz2 hzs hk hby base v l.length _ hown p m.length cap (m.flatMap en) (flat_lenA hen m) hn (flat_oc h1 m) hl hbase
  have hh := h v' w' (by rw [List.length_append, List.flatMap_append]; exact r1) r2
  refine wpList_plain hgd fun K hK => ?_
  unfold Oper.wp
  simp [execOp, ho, resolve, invoke, builtin, hs, hx, hrun, Result.andThen]
  exact hK _ _ hh
/-- .. in a region that draws its order. -/
theorem step_anyT {α : Type} {en : α → List Value} {ops : Array Oper} {o : Oper} {a : Act} {w : World} {K : Act → World → Prop} {Q : Exit → Act → World → Prop} {E : Prop} (hg : o.guard = none) (s x : Operand) (t e : TypeId) (z : Value) (k bytes : Nat)
    (info : (Try.prog.info? e).map (fun i => (i.zero, i.size, i.bytes)) = some (some z, k, bytes)) (ht : Try.prog.underlying t = some (.slice e)) (hzs : z.cells.size = k) (hk : 0 < k) (hby : bytes ≤ 1000) (hen : ∀ y, (en y).length = k) (h1 : ∀ y, ∀ u ∈ en y, u.oneCell' = true)
    (hop : o.op = .call { callee := .builtin .append, args := #[s, x], argTypes := #[t, t] }) (base : Nat) (v : Value) (l : List α) (hs : a.eval s = v) (hown : w.ownsRow base e k v l.length (l.flatMap en))
    (u : Value) (m : List α) (hx : a.eval x = u) (hp : IsAny en k w u m) (hl : l.length + m.length ≤ 1000000000) (hbase : base ≤ w.heap.size)
    (hK : ∀ v' w', w'.ownsRow base e k v' (l ++ m).length ((l ++ m).flatMap en) → Turn v v' w w' → K (a.put o.dst v') w') : if Region.wanted o (yielded ops a.tmps) = true then Oper.wp Try.prog o a w K Q else E := by
  obtain ⟨i0, hi, hz0, hz1, hz2⟩ := info_parts info
  obtain ⟨p, cap, rfl, hn⟩ := any_news hen hp
  refine step_turn hg s x t e i0 z k bytes ht hi hz0 hz1 hz2 hzs hk hby hop base v l.length _ hs hown p m.length cap (m.flatMap en) hx (flat_lenA hen m) hn (flat_oc h1 m) hl hbase ?_
  intro v' w' h2 h3
  exact hK v' w' (by rw [List.length_append, List.flatMap_append]; exact h2) h3
/-- A literal list. -/
theorem lit_any {α : Type} {en : α → List Value} {k : Nat} (hen : ∀ x, (en x).length = k) {w : World} {n : Nat} {T : TypeId} (l : List α) (hn : n = w.heap.size) : IsAny en k (w.alloc (.cells (l.flatMap en).toArray T)) (.slice (some ⟨n, 0, none⟩) l.length l.length) l := by
  subst hn
  refine ⟨_, l.length, rfl, fun hne => ⟨w.heap.size, 0, rfl, fun i hi j u hu => ?_⟩⟩
  have hB : Blk (w.alloc (.cells (l.flatMap en).toArray T)) w.heap.size T (l.flatMap en).toArray := Blk.new _ _ _
  rw [hB.cell, List.getElem?_toArray, Nat.zero_add]
  have hjk : j < k := by rw [← hen l[i]]; exact (List.getElem?_eq_some_iff.1 hu).1
  clear hB hne
  induction l generalizing i with
  | nil => simp at hi
  | cons x l ih =>
    rw [List.flatMap_cons]
    cases i with
    | zero =>
      rw [Nat.zero_mul, Nat.zero_add, List.getElem?_append_left (by rw [hen]; exact hjk)]
      exact hu
    | succ i =>
      rw [List.getElem?_append_right (by rw [hen, Nat.succ_mul]; omega), hen, show (i + 1) * k + j - k = i * k + j by rw [Nat.succ_mul]; omega]
      exact ih i (by simpa using hi) (by simpa using hu)

/-- A slice as it lies in a cell. -/
abbrev Sl3 := Option Addr × Nat × Nat
@[reducible] def slV (s : Sl3) : Value := .slice s.1 s.2.1 s.2.2
def nil3 : Sl3 := (none, 0, 0)
theorem IsPcs.list {α : Type} {B : Nat} {en : α → List Value} {k : Nat} {w : World} {v : Value} {ps : List (List α)} (h : IsPcs B en k w v ps) :
    ∃ (a : Option Addr) (cap : Nat) (ss : List Sl3), v = .slice a ps.length cap ∧ ps.length ≤ cap ∧ (cap : Int) ≤ 9223372036854775807 ∧ ss.length = ps.length ∧ (ps ≠ [] → ∃ b off, a = some ⟨b, off, none⟩ ∧ b < w.heap.size ∧ ∀ i (h : i < ps.length) (h2 : i < ss.length), w.cell? ⟨b, off + i, none⟩ = some (slV ss[i])) ∧
      ∀ i (h : i < ps.length) (h2 : i < ss.length), IsRow B en k w (slV ss[i]) ps[i] := by
  obtain ⟨a, cap, rfl, h2, h3, h4⟩ := h
  unfold maxLen at h3
  by_cases hne : ps = []
  · subst hne
    exact ⟨a, cap, [], rfl, h2, by omega, rfl, fun h => absurd rfl h, fun i h => absurd h (by simp)⟩
  · obtain ⟨b, off, rfl, hlt, hc⟩ := h4 hne
    have hx : ∀ i : Fin ps.length, ∃ s : Sl3, w.cell? ⟨b, off + i, none⟩ = some (slV s) ∧ IsRow B en k w (slV s) ps[i] := fun i => by
      obtain ⟨s, hs, hr⟩ := hc i i.2
      obtain ⟨p, c, e, -⟩ := id hr
      exact ⟨(p, _, c), by rw [hs, e], by rw [show slV (p, _, c) = s from e.symm]; exact hr⟩
    refine ⟨_, cap, List.ofFn fun i => Classical.choose (hx i), rfl, h2, by omega, by simp, fun _ => ⟨b, off, rfl, hlt, fun i hi hi2 => ?_⟩, fun i hi hi2 => ?_⟩
    · rw [List.getElem_ofFn]; exact (Classical.choose_spec (hx ⟨i, hi⟩)).1
    · rw [List.getElem_ofFn]; exact (Classical.choose_spec (hx ⟨i, hi⟩)).2

/-- A node as its five slices, in cells. -/
structure Nv where
  a : Sl3
  b : Sl3
  c : Sl3
  d : Sl3
  e : Sl3
@[reducible] def nodV (x : Nv) : Value := .agg #[slV x.a, slV x.b, slV x.c, slV x.d, slV x.e]
def encN (x : Nv) : List Value := [slV x.a, slV x.b, slV x.c, slV x.d, slV x.e]
theorem lenN (x : Nv) : (encN x).length = 5 := rfl
theorem ocN (x : Nv) : ∀ u ∈ encN x, u.oneCell' = true := by
  intro u hu; simp only [encN, List.mem_cons, List.not_mem_nil, or_false] at hu
  rcases hu with rfl | rfl | rfl | rfl | rfl <;> rfl
theorem infoN : (Try.prog.info? 43).map (fun i => (i.zero, i.size, i.bytes)) = some (some (.agg #[.slice none 0 0, .slice none 0 0, .slice none 0 0, .slice none 0 0, .slice none 0 0]), 5, 120) := by kernel_rfl
/-- A node whose lists lie from block B on. -/
def NodeAt (B : Nat) (w : World) (v : Value) (n : Nd) : Prop :=
  ∃ a b c d e, v = .agg #[a, b, c, d, e] ∧ IsRow B encP 3 w a n.pairs ∧ IsRow B encT 1 w b n.pivots ∧ IsRow B encI 1 w c n.kids ∧ IsRow B encSm 4 w d n.sums ∧ IsRow B encML 8 w e n.buf ∧ ∀ x ∈ n.pairs, x.1.length ≤ maxLen ∧ x.2.1.length ≤ maxLen
def IsNodesB (B : Nat) (w : World) (v : Value) (N : List Nd) : Prop :=
  ∃ X : List Nv, X.length = N.length ∧ IsRow B encN 5 w v X ∧ ∀ i (h : i < X.length) (h2 : i < N.length), NodeAt B w (nodV X[i]) N[i]
theorem IsNodesB.below {B : Nat} {w w' : World} {v : Value} {N : List Nd} (h : IsNodesB B w v N) (hb : Below w.heap.size w w') : IsNodesB B w' v N := by
  obtain ⟨X, h1, h2, h3⟩ := h
  refine ⟨X, h1, h2.below hb, fun i h h4 => ?_⟩
  obtain ⟨a, b, c, d, e, e0, k1, k2, k3, k4, k5, k6⟩ := h3 i h h4
  exact ⟨a, b, c, d, e, e0, k1.below hb, k2.below hb, k3.below hb, k4.below hb, k5.below hb, k6⟩
theorem IsNodesB.put {B c i : Nat} {w : World} {v x : Value} {N : List Nd} (h : IsNodesB B w v N) (hc : c < B) : IsNodesB B (w.setCell ⟨c, i, none⟩ x) v N := by
  obtain ⟨X, h1, h2, h3⟩ := h
  refine ⟨X, h1, h2.put hc, fun i h h4 => ?_⟩
  obtain ⟨a, b, c', d, e, e0, k1, k2, k3, k4, k5, k6⟩ := h3 i h h4
  exact ⟨a, b, c', d, e, e0, k1.put hc, k2.put hc, k3.put hc, k4.put hc, k5.put hc, k6⟩
/-- A list of nodes in memory. -/
def IsNodes (w : World) (v : Value) (N : List Nd) : Prop :=
  ∃ X : List Nv, X.length = N.length ∧ IsRow 0 encN 5 w v X ∧ ∀ i (h : i < X.length) (h2 : i < N.length), IsNode w (nodV X[i]) N[i]
theorem IsNodes.below {w w' : World} {v : Value} {N : List Nd} (h : IsNodes w v N) (hb : Below w.heap.size w w') : IsNodes w' v N := by
  obtain ⟨X, h1, h2, h3⟩ := h
  exact ⟨X, h1, h2.below hb, fun i h h4 => (h3 i h h4).below hb⟩
theorem IsNodes.form {w : World} {v : Value} {N : List Nd} (h : IsNodes w v N) : ∃ a cap, v = .slice a N.length cap ∧ N.length ≤ cap ∧ (cap : Int) ≤ 9223372036854775807 := by
  obtain ⟨X, h1, ⟨a, cap, rfl, h4, h5, -⟩, h3⟩ := h
  unfold maxLen at h5
  exact ⟨a, cap, by rw [h1], by omega, by omega⟩
theorem at_node {w : World} {v : Value} {N : List Nd} (h : IsNodes w v N) (i : Nat) (hi : i < N.length) : ∃ b off cap x, v = .slice (some ⟨b, off, none⟩) N.length cap ∧ b < w.heap.size ∧ IsNode w (nodV x) N[i] ∧
    w.cell? ⟨b, off + i * 5, none⟩ = some (slV x.a) ∧ w.cell? ⟨b, off + i * 5 + 1, none⟩ = some (slV x.b) ∧ w.cell? ⟨b, off + i * 5 + 2, none⟩ = some (slV x.c) ∧ w.cell? ⟨b, off + i * 5 + 3, none⟩ = some (slV x.d) ∧ w.cell? ⟨b, off + i * 5 + 4, none⟩ = some (slV x.e) := by
  obtain ⟨X, h1, ⟨a, cap, rfl, h4, h5, h6⟩, h3⟩ := h
  obtain ⟨b, off, rfl, -, hlt, hc⟩ := h6 (by rintro rfl; simp at h1; omega)
  have hx : i < X.length := by omega
  exact ⟨b, off, cap, X[i], by rw [h1], hlt, h3 i hx hi, hc i hx 0 _ rfl, hc i hx 1 _ rfl, hc i hx 2 _ rfl, hc i hx 3 _ rfl, hc i hx 4 _ rfl⟩

theorem IsPairs.row {w : World} {v : Value} {l : List Pr} (h : IsPairs w v l) : IsRow 0 encP 3 w v l := by
  obtain ⟨a, cap, rfl, h2, h3, -, h4⟩ := h
  refine ⟨a, cap, rfl, h2, h3, fun hne => ?_⟩
  obtain ⟨b, off, e, hlt, hc⟩ := h4 hne
  refine ⟨b, off, e, Nat.zero_le _, hlt, fun i hi j u hu => ?_⟩
  obtain ⟨c0, c1, c2⟩ := hc i hi
  match j, hu with
  | 0, hu => exact c0.trans hu
  | 1, hu => exact c1.trans hu
  | 2, hu => exact c2.trans hu
theorem IsRow.pairs {B : Nat} {w : World} {v : Value} {l : List Pr} (h : IsRow B encP 3 w v l) (hs : ∀ x ∈ l, x.1.length ≤ maxLen ∧ x.2.1.length ≤ maxLen) : IsPairs w v l := by
  obtain ⟨a, cap, rfl, h2, h3, h4⟩ := h
  refine ⟨a, cap, rfl, h2, h3, hs, fun hne => ?_⟩
  obtain ⟨b, off, e, -, hlt, hc⟩ := h4 hne
  exact ⟨b, off, e, hlt, fun i hi => ⟨hc i hi 0 _ rfl, hc i hi 1 _ rfl, hc i hi 2 _ rfl⟩⟩
theorem IsStrs.row {w : World} {v : Value} {l : List Bs} (h : IsStrs w v l) : IsRow 0 encT 1 w v l := by
  obtain ⟨a, cap, rfl, h2, h3, h4⟩ := h
  refine ⟨a, cap, rfl, h2, h3, fun hne => ?_⟩
  obtain ⟨b, off, e, hlt, hc⟩ := h4 hne
  refine ⟨b, off, e, Nat.zero_le _, hlt, fun i hi j u hu => ?_⟩
  match j, hu with
  | 0, hu => rw [Nat.mul_one]; exact (hc i hi).trans hu
theorem IsRow.strs {B : Nat} {w : World} {v : Value} {l : List Bs} (h : IsRow B encT 1 w v l) : IsStrs w v l := by
  obtain ⟨a, cap, rfl, h2, h3, h4⟩ := h
  refine ⟨a, cap, rfl, h2, h3, fun hne => ?_⟩
  obtain ⟨b, off, e, -, hlt, hc⟩ := h4 hne
  exact ⟨b, off, e, hlt, fun i hi => by have := hc i hi 0 _ rfl; rwa [Nat.mul_one] at this⟩
theorem IsInts.row {w : World} {v : Value} {l : List Int} (h : IsInts w v l) : IsRow 0 encI 1 w v l := by
  obtain ⟨a, cap, rfl, h2, h3, h4⟩ := h
  refine ⟨a, cap, rfl, h2, h3, fun hne => ?_⟩
  obtain ⟨b, off, e, hlt, hc⟩ := h4 hne
  refine ⟨b, off, e, Nat.zero_le _, hlt, fun i hi j u hu => ?_⟩
  match j, hu with
  | 0, hu => rw [Nat.mul_one]; exact (hc i hi).trans hu
theorem IsRow.ints {B : Nat} {w : World} {v : Value} {l : List Int} (h : IsRow B encI 1 w v l) : IsInts w v l := by
  obtain ⟨a, cap, rfl, h2, h3, h4⟩ := h
  refine ⟨a, cap, rfl, h2, h3, fun hne => ?_⟩
  obtain ⟨b, off, e, -, hlt, hc⟩ := h4 hne
  exact ⟨b, off, e, hlt, fun i hi => by have := hc i hi 0 _ rfl; rwa [Nat.mul_one] at this⟩
theorem IsSums.row {w : World} {v : Value} {l : List Sm} (h : IsSums w v l) : IsRow 0 encSm 4 w v l := by
  obtain ⟨a, cap, rfl, h2, h3, h4⟩ := h
  refine ⟨a, cap, rfl, h2, h3, fun hne => ?_⟩
  obtain ⟨b, off, e, hlt, hc⟩ := h4 hne
  refine ⟨b, off, e, Nat.zero_le _, hlt, fun i hi j u hu => ?_⟩
  obtain ⟨c0, c1, c2, c3⟩ := hc i hi
  match j, hu with
  | 0, hu => exact c0.trans hu
  | 1, hu => exact c1.trans hu
  | 2, hu => exact c2.trans hu
  | 3, hu => exact c3.trans hu
theorem IsRow.sums {B : Nat} {w : World} {v : Value} {l : List Sm} (h : IsRow B encSm 4 w v l) : IsSums w v l := by
  obtain ⟨a, cap, rfl, h2, h3, h4⟩ := h
  refine ⟨a, cap, rfl, h2, h3, fun hne => ?_⟩
  obtain ⟨b, off, e, -, hlt, hc⟩ := h4 hne
  exact ⟨b, off, e, hlt, fun i hi => ⟨hc i hi 0 _ rfl, hc i hi 1 _ rfl, hc i hi 2 _ rfl, hc i hi 3 _ rfl⟩⟩
theorem IsMsgs.row {w : World} {v : Value} {l : List Ms} (h : IsMsgs w v l) : IsRow 0 encML 8 w v l := by
  obtain ⟨a, cap, rfl, h2, h3, h4⟩ := h
  refine ⟨a, cap, rfl, h2, h3, fun hne => ?_⟩
  obtain ⟨b, off, e, hlt, hc⟩ := h4 hne
  refine ⟨b, off, e, Nat.zero_le _, hlt, fun i hi j u hu => ?_⟩
  obtain ⟨c0, c1, c2, c3, c4, c5, c6, c7⟩ := hc i hi
  match j, hu with
  | 0, hu => exact c0.trans hu
  | 1, hu => exact c1.trans hu
  | 2, hu => exact c2.trans hu
  | 3, hu => exact c3.trans hu
  | 4, hu => exact c4.trans hu
  | 5, hu => exact c5.trans hu
  | 6, hu => exact c6.trans hu
  | 7, hu => exact c7.trans hu
theorem IsRow.msgs {B : Nat} {w : World} {v : Value} {l : List Ms} (h : IsRow B encML 8 w v l) : IsMsgs w v l := by
  obtain ⟨a, cap, rfl, h2, h3, h4⟩ := h
  refine ⟨a, cap, rfl, h2, h3, fun hne => ?_⟩
  obtain ⟨b, off, e, -, hlt, hc⟩ := h4 hne
  exact ⟨b, off, e, hlt, fun i hi => ⟨hc i hi 0 _ rfl, hc i hi 1 _ rfl, hc i hi 2 _ rfl, hc i hi 3 _ rfl, hc i hi 4 _ rfl, hc i hi 5 _ rfl, hc i hi 6 _ rfl, hc i hi 7 _ rfl⟩⟩

theorem NodeAt.node {B : Nat} {w : World} {v : Value} {n : Nd} (h : NodeAt B w v n) : IsNode w v n := by
  obtain ⟨a, b, c, d, e, e0, k1, k2, k3, k4, k5, k6⟩ := h
  exact ⟨a, b, c, d, e, e0, k1.pairs k6, k2.strs, k3.ints, k4.sums, k5.msgs⟩
theorem IsNodesB.nodes {B : Nat} {w : World} {v : Value} {N : List Nd} (h : IsNodesB B w v N) : IsNodes w v N := by
  obtain ⟨X, h1, h2, h3⟩ := h
  exact ⟨X, h1, h2.lower (Nat.zero_le _), fun i h h4 => (h3 i h h4).node⟩

end Go.Proofs.Ythpajecigkfajaa
