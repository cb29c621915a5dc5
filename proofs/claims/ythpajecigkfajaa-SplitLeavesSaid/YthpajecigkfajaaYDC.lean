/-
  A region that draws, whose last operations all wait for what was loaded before: a condition on the world that holds until these come up.
-/
import Derived.Test.YthpajecigkfajaaYDA
import Derived.Deep.RegionHeld
namespace Go.Proofs.Ythpajecigkfajaa
open Go.RowKit Go.Sort
set_option linter.unusedVariables false

section
variable {P : Program} {ops : Array Oper} {Q : Exit → Act → World → Prop} {md : Region.Mode} {n : Nat} {S : World → Prop}

/-- In whatever order the operations come up; behind each one below n the condition holds. -/
def AnyT (P : Program) (md : Region.Mode) (ops : Array Oper) (Q : Exit → Act → World → Prop) (n : Nat) (S : World → Prop) : Nat → Array Bool → Act → World → Prop
  | 0, up, a, w => Region.ready md ops up = [] ∧ Q .normal a w
  | k + 1, up, a, w => (Region.ready md ops up = [] → Q .normal a w) ∧ ∀ i ∈ Region.ready md ops up, wpOp P ops Q i (fun a2 w2 => (i < n → S w2) ∧ AnyT P md ops Q n S k (up.setIfInBounds i true) a2 w2) a w
theorem any_of_T : ∀ (k : Nat) (up : Array Bool) (a : Act) (w : World), AnyT P md ops Q n S k up a w → wpAny P md ops Q k up a w
  | 0, _, _, _, h => h
  | k + 1, up, a, w, h => ⟨h.1, fun i hi => wpOp_mono (fun a2 w2 h2 => any_of_T k _ a2 w2 h2.2) (h.2 i hi)⟩
theorem T_done {up : Array Bool} {a : Act} {w : World} (hr : Region.ready md ops up = []) (h : Q .normal a w) : ∀ k, AnyT P md ops Q n S k up a w
  | 0 => ⟨hr, h⟩
  | _ + 1 => ⟨fun _ => h, fun i hi => by rw [hr] at hi; cases hi⟩
/-- The last operations all wait for number i. -/
def tailsB (md : Region.Mode) (ops : Array Oper) (n i : Nat) : Bool :=
  decide (i < n) && (List.range ops.size).all fun t => decide (t < n) || match ops[t]? with
    | some o => o.after.any fun e => Region.binds md e && e.on == i
    | none => true
theorem tails_spec {i : Nat} (h : tailsB md ops n i = true) : i < n ∧ ∀ t o, ops[t]? = some o → (∀ e ∈ o.after, Region.binds md e = true → e.on ≠ i) → t < n := by
  unfold tailsB at h
  rw [Bool.and_eq_true, decide_eq_true_eq] at h
  refine ⟨h.1, fun t o ho hn => ?_⟩
  have ht := (Array.getElem?_eq_some_iff.1 ho).1
  have h2 := List.all_eq_true.1 h.2 t (List.mem_range.2 ht)
  rw [ho, Bool.or_eq_true, decide_eq_true_eq] at h2
  rcases h2 with h2 | h2
  · exact h2
  · obtain ⟨e, he, hb⟩ := Array.any_eq_true'.1 h2
    rw [Bool.and_eq_true, beq_iff_eq] at hb
    exact absurd hb.2 (hn e he hb.1)
theorem T_first {i : Nat} {oi : Oper} {v : Value} (hi : ops[i]? = some oi) (hsel : ∀ (j : Nat) (o : Oper) cs b, ops[j]? = some o → o.op ≠ .select cs b)
    (hQ : ∀ c a w, Q (.panic c) (a.put oi.dst v) w → Q (.panic c) a w) (ht : tailsB md ops n i = true) :
    ∀ (k : Nat) (up : Array Bool) (a : Act) (w : World),
      (∀ j oj, ops[j]? = some oj → j ≠ i → up.getD j true = false → (∀ e ∈ oj.after, Region.binds md e = true → e.on ≠ i) → oi.apart ops oj = true) →
      i ∈ Region.ready md ops up → YieldsIf P ops S oi v a → S w → AnyT P md ops Q n S k (up.setIfInBounds i true) (a.put oi.dst v) w → AnyT P md ops Q n S (k + 1) up a w := by
  have hts := tails_spec ht
  intro k
  induction k with
  | zero =>
    intro up a w _ hr hy hS H
    refine ⟨fun h => by (rw [h] at hr; cases hr), fun j hj => ?_⟩
    by_cases hji : j = i
    · rw [hji]; exact hy.wpOp hi hS ⟨fun _ => hS, H⟩
    · have h := ready_mono hj hji
      rw [H.1] at h
      cases h
  | succ k ih =>
    intro up a w hfree hr hy hS H
    refine ⟨fun h => by (rw [h] at hr; cases hr), fun j hj => ?_⟩
    by_cases hji : j = i
    · rw [hji]; exact hy.wpOp hi hS ⟨fun _ => hS, H⟩
    · obtain ⟨hju, oj, hoj, hall⟩ := mem_ready.1 hj
      have hno : ∀ e ∈ oj.after, Region.binds md e = true → e.on ≠ i := fun e he hb heq => by
        have h1 := hall e he hb
        have h0 := (mem_ready.1 hr).1
        rw [heq] at h1
        rw [getD_both h0] at h1
        cases h1
      have hjn := hts.2 j oj hoj hno
      have h1 := wpOp_putIf hoj (hfree j oj hoj hji hju hno) (fun cs b => hsel i oi cs b hi) (fun cs b => hsel j oj cs b hoj) hQ hy (H.2 j (ready_mono hj hji))
      refine wpOp_mono (fun a2 w2 h2 => ⟨h2.2.1, ih (up.setIfInBounds j true) a2 w2 (fun t ot hot hti hun hnt => hfree t ot hot hti ?_ hnt) (ready_mono hr (Ne.symm hji)) h2.1 (h2.2.1 hjn) ?_⟩) h1
      · by_cases hjt : j = t
        · rw [← hjt]; exact hju
        · rwa [getD_set_ne true hjt] at hun
      · rw [Array.setIfInBounds_comm _ _ hji]
        exact h2.2.2
theorem T_take {i : Nat} {oi : Oper} {v : Value} {k : Nat} {up : Array Bool} {a : Act} {w : World} (hi : ops[i]? = some oi)
    (hs : Region.noSelect ops = true) (hf : Region.free md ops up i = true) (hr : (Region.ready md ops up).contains i = true) (ht : tailsB md ops n i = true)
    (hQ : ∀ c a w, Q (.panic c) (a.put oi.dst v) w → Q (.panic c) a w) (hy : YieldsIf P ops S oi v a) (hS : S w)
    (h : AnyT P md ops Q n S k (up.setIfInBounds i true) (a.put oi.dst v) w) : AnyT P md ops Q n S (k + 1) up a w :=
  T_first hi (Region.noSelect_spec hs) hQ ht k up a w (Region.free_spec hi hf) (by simpa using hr) hy hS h
/-- Each of these comes up next. -/
def AllT (P : Program) (md : Region.Mode) (ops : Array Oper) (Q : Exit → Act → World → Prop) (n : Nat) (S : World → Prop) (k : Nat) (up : Array Bool) (a : Act) (w : World) (rs : List Nat) : Prop :=
  ∀ i ∈ rs, wpOp P ops Q i (fun a2 w2 => (i < n → S w2) ∧ AnyT P md ops Q n S k (up.setIfInBounds i true) a2 w2) a w
theorem AllT.nil {k : Nat} {up : Array Bool} {a : Act} {w : World} : AllT P md ops Q n S k up a w [] := fun _ h => by cases h
theorem AllT.cons {k : Nat} {up : Array Bool} {a : Act} {w : World} {i : Nat} {o : Oper} {rs : List Nat} (ho : ops[i]? = some o)
    (h : ∀ K : Act → World → Prop, Shut (∀ a w, (i < n → S w) → AnyT P md ops Q n S k (up.setIfInBounds i true) a w → K a w) → if Region.wanted o (yielded ops a.tmps) = true then Oper.wp P o a w K Q else K (a.put o.dst undef) w)
    (hs : AllT P md ops Q n S k up a w rs) : AllT P md ops Q n S k up a w (i :: rs) := fun j hj => by
  rcases List.mem_cons.1 hj with rfl | hj
  · exact wpOp_step ho (fun K hK => h K (fun a w hS hW => hK a w ⟨hS, hW⟩))
  · exact hs j hj
theorem T_ready {rs : List Nat} {k : Nat} {up : Array Bool} {a : Act} {w : World} (hr : Region.ready md ops up = rs) (hne : rs ≠ []) (h : AllT P md ops Q n S k up a w rs) : AnyT P md ops Q n S (k + 1) up a w :=
  ⟨fun h0 => absurd (hr ▸ h0) hne, fun i hi => h i (hr ▸ hi)⟩
theorem region_T {id : Nat} {a : Act} {w : World} (hm : P.follows .mixedOrders = true) (hS : S w.drew) (h : S w.drew → AnyT P .any ops Q n S ops.size (Array.replicate ops.size false) a w.drew) : (Code.region id ops true).wp P Q a w :=
  wp_region_any hm (any_of_T _ _ _ _ (h hS))
end

/-- One element more, in a region: the world grows by the row alone. -/
theorem step_own1 {ops : Array Oper} {o : Oper} {a : Act} {w : World} {K : Act → World → Prop} {Q : Exit → Act → World → Prop} {E : Prop} (hg : o.guard = none) (s x : Operand) (t e : TypeId) (i0 : TypeInfo) (z : Value) (size bytes : Nat)
    (ht : Try.prog.underlying t = some (.slice e)) (hi : Try.prog.info? e = some i0) (hz0 : i0.zero = some z) (hz1 : i0.size = size) (hz2 : i0.bytes = bytes) (hzs : z.cells.size = size) (hsz : 0 < size) (hby : bytes ≤ 1000)
    (hop : o.op = .call { callee := .builtin .append, args := #[s, x], argTypes := #[t, t] }) (base : Nat) (v : Value) (n : Nat) (xs : List Value) (hs : a.eval s = v) (hown : w.ownsRow base e size v n xs)
    (ad : Addr) (cap : Nat) (news : List Value) (hx : a.eval x = .slice (some ad) 1 cap) (hnl : news.length = 1 * size) (hp : ∀ j u, news[j]? = some u → w.cell? (ad.add j) = some u) (h1 : ∀ u ∈ news, u.oneCell' = true)
    (hl : n ≤ 1000000) (hbase : base ≤ w.heap.size)
    (hK : ∀ v' w', w'.ownsRow base e size v' (n + 1) (xs ++ news) → w.grownBy w' v.ownBlock → K (a.put o.dst v') w') : if Region.wanted o (yielded ops a.tmps) = true then Oper.wp Try.prog o a w K Q else E := by
  have hw : Region.wanted o (yielded ops a.tmps) = true := by simp [Region.wanted, hg]
  rw [if_pos hw]
  have hbytes : (n + 1) * bytes ≤ 140737488355328 := by
    have h := Nat.mul_le_mul (show n + 1 ≤ 1000001 by omega) hby
    generalize (n + 1) * bytes = q at *
    omega
  obtain ⟨v', w', hrun, r2, r3, -⟩ := run_append_own (P := Try.prog) w base t o.type e i0 z size bytes ht hi hz0 hz1 hz2 hzs hsz v n xs hown ad 1 cap news hnl hp h1 (by unfold maxLen; omega) hbytes hbase
  unfold Oper.wp
  simp [execOp, hop, resolve, invoke, builtin, hs, hx, hrun, Result.andThen]
  exact hK v' w' r2 r3
set_option maxRecDepth 100000 in
theorem step_int {ops : Array Oper} {o : Oper} {a : Act} {w : World} {K : Act → World → Prop} {Q : Exit → Act → World → Prop} {E : Prop} (hg : o.guard = none) (s x : Operand)
    (hop : o.op = .call { callee := .builtin .append, args := #[s, x], argTypes := #[40, 40] }) (base : Nat) (v : Value) (l : List Int) (hs : a.eval s = v) (hown : w.ownsRow base 3 1 v l.length (l.flatMap encI))
    (g cap : Nat) (n : Int) (hx : a.eval x = .slice (some ⟨g, 0, none⟩) 1 cap) (hc : w.cell? ⟨g, 0, none⟩ = some (.int .i64 n)) (hl : l.length ≤ 1000000) (hbase : base ≤ w.heap.size)
    (hK : ∀ v' w', w'.ownsRow base 3 1 v' (l ++ [n]).length ((l ++ [n]).flatMap encI) → w.grownBy w' v.ownBlock → K (a.put o.dst v') w') : if Region.wanted o (yielded ops a.tmps) = true then Oper.wp Try.prog o a w K Q else E := by
  obtain ⟨i0, hi, hz0, hz1, hz2⟩ := info_parts infoI
  refine step_own1 hg s x 40 3 i0 (.int .i64 0) 1 8 Try.underlying40 hi hz0 hz1 hz2 rfl (by decide) (by decide) hop base v l.length _ hs hown ⟨g, 0, none⟩ cap (encI n) hx rfl ?_ ?_ hl hbase ?_
  · intro j u hj
    match j, hj with
    | 0, hj => injection hj with hj; rw [← hj]; exact hc
  · intro u hu
    rw [encI, List.mem_singleton] at hu
    rw [hu]; rfl
  · intro v' w' h2 h3
    refine hK v' w' ?_ h3
    rw [List.length_append, List.flatMap_append]; simpa using h2
set_option maxRecDepth 100000 in
theorem step_sum {ops : Array Oper} {o : Oper} {a : Act} {w : World} {K : Act → World → Prop} {Q : Exit → Act → World → Prop} {E : Prop} (hg : o.guard = none) (s x : Operand)
    (hop : o.op = .call { callee := .builtin .append, args := #[s, x], argTypes := #[41, 41] }) (base : Nat) (v : Value) (l : List Sm) (hs : a.eval s = v) (hown : w.ownsRow base 72 4 v l.length (l.flatMap encSm))
    (g cap : Nat) (n : Sm) (hx : a.eval x = .slice (some ⟨g, 0, none⟩) 1 cap) (hc : Blk w g 72 #[.int .i64 n.1.1, .int .i64 n.1.2, .int .i64 n.2.1, .int .i64 n.2.2]) (hl : l.length ≤ 1000000) (hbase : base ≤ w.heap.size)
    (hK : ∀ v' w', w'.ownsRow base 72 4 v' (l ++ [n]).length ((l ++ [n]).flatMap encSm) → w.grownBy w' v.ownBlock → K (a.put o.dst v') w') : if Region.wanted o (yielded ops a.tmps) = true then Oper.wp Try.prog o a w K Q else E := by
  obtain ⟨i0, hi, hz0, hz1, hz2⟩ := info_parts infoSm
  refine step_own1 hg s x 41 72 i0 (.agg #[.int .i64 0, .int .i64 0, .int .i64 0, .int .i64 0]) 4 32 Try.underlying41 hi hz0 hz1 hz2 rfl (by decide) (by decide) hop base v l.length _ hs hown ⟨g, 0, none⟩ cap (encSm n) hx rfl ?_ ?_ hl hbase ?_
  · intro j u hj
    have e : (⟨g, 0, none⟩ : Addr).add j = ⟨g, j, none⟩ := by unfold Addr.add; split <;> simp_all
    rw [e, hc.cell]
    rw [← hj]
    match j, hj with
    | 0, _ => rfl
    | 1, _ => rfl
    | 2, _ => rfl
    | 3, _ => rfl
  · intro u hu
    simp only [encSm, List.mem_cons, List.not_mem_nil, or_false] at hu
    rcases hu with rfl | rfl | rfl | rfl <;> rfl
  · intro v' w' h2 h3
    refine hK v' w' ?_ h3
    rw [List.length_append, List.flatMap_append]; simpa using h2
theorem grown_blk {w w' : World} {row : Option Nat} {b : Nat} {T : TypeId} {cs : Array Value} (h : Blk w b T cs) (hg : w.grownBy w' row) (hne : row ≠ some b) : Blk w' b T cs := (hg.block b h.lt hne.symm).trans h
theorem grown_own {w w' : World} {row : Option Nat} {B size n : Nat} {T : TypeId} {v : Value} {xs : List Value} (h : w.ownsRow B T size v n xs) (hg : w.grownBy w' row) (hne : ∀ b, row = some b → v.ownBlock ≠ some b) : w'.ownsRow B T size v n xs := by
  refine ⟨h.1, ?_⟩
  rcases h.2 with h2 | ⟨g, cap, cur, h2, h3, h4, h5⟩
  · exact .inl h2
  · refine .inr ⟨g, cap, cur, h2, h3, grown_blk h4 hg (fun e => hne g e (by rw [h2]; rfl)), h5⟩
theorem own_type {w : World} {B size n b : Nat} {T T2 : TypeId} {v : Value} {xs : List Value} {cs : Array Value} (h : w.ownsRow B T size v n xs) (hb : Blk w b T2 cs) (hT : T ≠ T2) : v.ownBlock ≠ some b := by
  intro e
  rcases h.2 with ⟨rfl, _⟩ | ⟨g, cap, cur, rfl, _, h4, _⟩
  · cases e
  · have e1 : g = b := Option.some.inj e
    subst e1
    unfold Blk at hb
    rw [h4] at hb
    injection hb with hb
    injection hb with _ ht
    exact hT ht
theorem own_own {w : World} {B B2 size size2 n n2 : Nat} {T T2 : TypeId} {v v2 : Value} {xs xs2 : List Value} (h : w.ownsRow B T size v n xs) (h2 : w.ownsRow B2 T2 size2 v2 n2 xs2) (hT : T ≠ T2) : ∀ b, v.ownBlock = some b → v2.ownBlock ≠ some b := by
  intro b e
  rcases h.2 with ⟨rfl, _⟩ | ⟨g, cap, cur, rfl, _, h4, _⟩
  · cases e
  · have e1 : g = b := Option.some.inj e
    subst e1
    exact own_type h2 (T2 := T) (cs := cur) h4 (Ne.symm hT)

end Go.Proofs.Ythpajecigkfajaa
