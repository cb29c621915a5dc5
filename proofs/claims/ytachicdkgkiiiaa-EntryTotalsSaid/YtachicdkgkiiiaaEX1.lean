/-
  The walk of the law EntryTotals: rows of pairs.
-/
import Derived.Test.YtachicdkgkiiiaaEWB
import Derived.Test.YtachicdkgkiiiaaEF
import Derived.Laws.AppendOwnNone
namespace Go.Proofs.Ytachicdkgkiiiaa
open Go.RowKit Go.Sort
set_option linter.unusedVariables false

/-- A pair as cells. -/
def encP (x : Pr) : List Value := [.string (Str x.1), .string (Str x.2.1), .int .i64 x.2.2]
theorem flatP_get (l : List Pr) (i : Nat) (h : i < l.length) : (l.flatMap encP)[i * 3]? = some (.string (Str l[i].1)) ∧ (l.flatMap encP)[i * 3 + 1]? = some (.string (Str l[i].2.1)) ∧ (l.flatMap encP)[i * 3 + 2]? = some (.int .i64 l[i].2.2) := by
  induction l generalizing i with
  | nil => simp at h
  | cons s l ih =>
    have e : (s :: l).flatMap encP = .string (Str s.1) :: .string (Str s.2.1) :: .int .i64 s.2.2 :: l.flatMap encP := rfl
    rw [e]
    cases i with
    | zero => exact ⟨rfl, rfl, rfl⟩
    | succ i =>
      have := ih i (by simpa using h)
      rw [show (i + 1) * 3 = i * 3 + 3 by omega]
      exact this
theorem flatP_len (l : List Pr) : (l.flatMap encP).length = l.length * 3 := by
  induction l with
  | nil => rfl
  | cons s l ih =>
    have e : (s :: l).flatMap encP = .string (Str s.1) :: .string (Str s.2.1) :: .int .i64 s.2.2 :: l.flatMap encP := rfl
    rw [e]; simp [ih]; omega
theorem flatP_one (l : List Pr) : ∀ u ∈ l.flatMap encP, u.oneCell' = true := by
  intro u hu
  obtain ⟨x, _, hx⟩ := List.mem_flatMap.1 hu
  simp [encP] at hx
  rcases hx with rfl | rfl | rfl <;> rfl
/-- What lies behind an address, cell by cell. -/
theorem flatP_of (w : World) (b off : Nat) (l : List Pr) (hc : ∀ i (h : i < l.length), w.cell? ⟨b, off + i * 3, none⟩ = some (.string (Str l[i].1)) ∧ w.cell? ⟨b, off + i * 3 + 1, none⟩ = some (.string (Str l[i].2.1)) ∧ w.cell? ⟨b, off + i * 3 + 2, none⟩ = some (.int .i64 l[i].2.2)) :
    ∀ j u, (l.flatMap encP)[j]? = some u → w.cell? ((⟨b, off, none⟩ : Addr).add j) = some u := by
  intro j u hj
  have hlt : j < l.length * 3 := by
    rw [← flatP_len]
    exact (List.getElem?_eq_some_iff.1 hj).1
  have hadd : (⟨b, off, none⟩ : Addr).add j = ⟨b, off + j, none⟩ := by unfold Addr.add; split <;> simp_all
  rw [hadd]
  have hi : j / 3 < l.length := by omega
  have g := flatP_get l (j / 3) hi
  have c := hc (j / 3) hi
  have hcase : j = j / 3 * 3 ∨ j = j / 3 * 3 + 1 ∨ j = j / 3 * 3 + 2 := by omega
  rcases hcase with h | h | h
  · rw [h] at hj ⊢
    have hd : j / 3 * 3 / 3 = j / 3 := by omega
    rw [g.1] at hj
    rw [← Option.some.inj hj]
    exact c.1
  · rw [h] at hj ⊢
    rw [g.2.1] at hj
    rw [← Option.some.inj hj]
    exact c.2.1
  · rw [h] at hj ⊢
    rw [g.2.2] at hj
    rw [← Option.some.inj hj]
    exact c.2.2

theorem IsPairs.owned {w : World} {base : Nat} {v : Value} {n : Nat} {l : List Pr} (h : w.ownsRow base 27 3 v n (l.flatMap encP)) (hs : ∀ x ∈ l, x.1.length ≤ maxLen ∧ x.2.1.length ≤ maxLen) : IsPairs w v l := by
  have hlen := h.1
  rw [flatP_len] at hlen
  obtain rfl : n = l.length := by omega
  rcases h.2 with ⟨rfl, h0⟩ | ⟨g, cap, cur, rfl, hb, hg, hn, hm, hsz, htk⟩
  · have : l = [] := List.length_eq_zero_iff.1 h0
    subst this
    exact ⟨none, 0, rfl, Nat.le_refl _, by unfold maxLen; omega, hs, fun h => absurd rfl h⟩
  · refine ⟨_, cap, rfl, hn, hm, hs, fun hne => ⟨g, 0, rfl, (Array.getElem?_eq_some_iff.1 hg).1, fun i hi => ?_⟩⟩
    have hc : ∀ j u, (l.flatMap encP)[j]? = some u → w.cell? ⟨g, 0 + j, none⟩ = some u := by
      intro j u hj
      unfold World.cell?
      rw [hg]
      show cur[0 + j]? = _
      have h1 : (cur.toList.take (l.length * 3))[j]? = some u := by rw [htk]; exact hj
      rw [List.getElem?_take] at h1
      split at h1
      · rw [Array.getElem?_toList] at h1; rw [Nat.zero_add]; exact h1
      · cases h1
    have g3 := flatP_get l i hi
    refine ⟨hc _ _ g3.1, ?_, ?_⟩
    · rw [Nat.add_assoc]; exact hc _ _ g3.2.1
    · rw [Nat.add_assoc]; exact hc _ _ g3.2.2

theorem own_empty (W : World) (B : Nat) (hB : B ≤ W.heap.size) : (W.alloc (.cells #[] 27)).ownsRow B 27 3 (.slice (some ⟨W.heap.size, 0, none⟩) 0 0) 0 (([] : List Pr).flatMap encP) :=
  ⟨rfl, .inr ⟨W.heap.size, 0, #[], rfl, hB, Blk.new _ _ _, Nat.le_refl _, by unfold maxLen; omega, rfl, rfl⟩⟩

theorem infoP : (Try.prog.info? 27).map (fun i => (i.zero, i.size, i.bytes)) = some (some (.agg #[.string ⟨#[]⟩, .string ⟨#[]⟩, .int .i64 0]), 3, 40) := by kernel_rfl

/-- append(s, x...), s a row of the call's own, x any slice of pairs. -/
theorem append_pairs {w : World} {ops : Array Oper} {rest : List Oper} {o : Oper} {a : Act} {Q : Exit → Act → World → Prop} (hgd : o.guard = none) (s x : Operand)
    (ho : o.op = .call { callee := .builtin .append, args := #[s, x], argTypes := #[24, 24] }) (base : Nat) (v : Value) (l : List Pr) (hs : a.eval s = v) (hown : w.ownsRow base 27 3 v l.length (l.flatMap encP))
    (u : Value) (m : List Pr) (hx : a.eval x = u) (hp : IsPairs w u m) (hl : l.length + m.length ≤ 1000) (hbase : base ≤ w.heap.size)
    (h : ∀ v' w', w'.ownsRow base 27 3 v' (l ++ m).length ((l ++ m).flatMap encP) → Below base w w' → wpList Try.prog ops Q rest (a.put o.dst v') w') : wpList Try.prog ops Q (o :: rest) a w := by
  obtain ⟨i0, hi, hz0, hz1, hz2⟩ := info_parts infoP
  obtain ⟨p, cap, rfl, hlc, hcm, hsm, hpp⟩ := hp
  by_cases hm : m = []
  · subst hm
    have hh := h v w (by simpa using hown) (Below.refl _ _)
    cases p with
    | none =>
      refine wpList_plain hgd fun K hK => ?_
      have hrun : (Builtin.append_ #[24, 24] o.type #[v, .slice none 0 cap]).run Try.prog w = .ok v w := by
        rcases hown.2 with ⟨rfl, e0⟩ | ⟨g, cap', cur, rfl, _, _, hnc, _⟩
        · simp [Builtin.append_, run_underlying Try.underlying24, sizeOf, typeInfo, hi, Builtin.lenOf, Builtin.firstCells]
        · simp [Builtin.append_, run_underlying Try.underlying24, sizeOf, typeInfo, hi, Builtin.lenOf, Builtin.firstCells, hnc, storeCells]
      have hx' : a.eval x = .slice none 0 cap := hx
      unfold Oper.wp
      simp [execOp, ho, resolve, invoke, builtin, hs, hx', hrun, Result.andThen]
      exact hK _ _ hh
    | some ad =>
      refine wpList_append_own _ hgd s x 24 ho base 27 i0 (.agg #[.string ⟨#[]⟩, .string ⟨#[]⟩, .int .i64 0]) 3 40 Try.underlying24 hi hz0 hz1 hz2 rfl (by decide) v l.length _ hs hown ad 0 cap [] hx rfl (fun j u hj => by simp at hj) (fun u hu => by simp at hu) (by unfold maxLen; omega) (by omega) hbase ?_
      intro v' w' h1 h2 _
      exact h v' w' (by simpa using h1) (Below.grown (Below.refl _ _) h2 hbase (fun q hq => (hown.lt q hq).1))
  · obtain ⟨b, off, rfl, hlt, hc⟩ := hpp hm
    refine wpList_append_own _ hgd s x 24 ho base 27 i0 (.agg #[.string ⟨#[]⟩, .string ⟨#[]⟩, .int .i64 0]) 3 40 Try.underlying24 hi hz0 hz1 hz2 rfl (by decide) v l.length _ hs hown ⟨b, off, none⟩ m.length cap (m.flatMap encP) hx (flatP_len m) (flatP_of w b off m hc) (flatP_one m) (by unfold maxLen; omega) (by omega) hbase ?_
    intro v' w' h1 h2 _
    refine h v' w' ?_ (Below.grown (Below.refl _ _) h2 hbase (fun q hq => (hown.lt q hq).1))
    rw [List.length_append, List.flatMap_append]; exact h1

end Go.Proofs.Ytachicdkgkiiiaa
