/-
  Rows of texts: what a slice of texts is, appends onto an own one.
-/
import Derived.Test.YticlomakmcjcfaaW8
import Derived.Test.YticlomakmcjcfaaEW0
import Derived.Laws.AppendOwnNone
import Derived.Sort.Grow
namespace Go.Proofs.Yticlomakmcjcfaa
open Go.RowKit Go.Sort
set_option linter.unusedVariables false
set_option maxRecDepth 1000000

theorem infoStr : (Try.prog.info? 9).map (fun i => (i.zero, i.size, i.bytes)) = some (some (.string ⟨#[]⟩), 1, 16) := by kernel_rfl
/-- A slice of strings. -/
def IsStrs (w : World) (v : Value) (l : List Bs) : Prop :=
  ∃ a cap, v = .slice a l.length cap ∧ l.length ≤ cap ∧ cap ≤ maxLen ∧ (l ≠ [] → ∃ b off, a = some ⟨b, off, none⟩ ∧ b < w.heap.size ∧
    ∀ i (h : i < l.length), w.cell? ⟨b, off + i, none⟩ = some (.string (Str l[i])))
theorem IsStrs.below {w w' : World} {v : Value} {l : List Bs} (h : IsStrs w v l) (hb : Below w.heap.size w w') : IsStrs w' v l := by
  obtain ⟨a, cap, h1, h2, h3, h4⟩ := h
  refine ⟨a, cap, h1, h2, h3, fun hl => ?_⟩
  obtain ⟨b, off, e, hlt, hc⟩ := h4 hl
  exact ⟨b, off, e, Nat.lt_of_lt_of_le hlt hb.size, fun i hi => by rw [hb.cell (by exact hlt)]; exact hc i hi⟩
theorem IsStrs.form {w : World} {v : Value} {l : List Bs} (h : IsStrs w v l) : ∃ b off cap a, v = .slice a l.length cap ∧ l.length ≤ cap ∧ cap ≤ maxLen ∧ (l ≠ [] → a = some ⟨b, off, none⟩ ∧ b < w.heap.size) ∧
    ∀ i (h : i < l.length), a = some ⟨b, off, none⟩ ∧ w.cell? ⟨b, off + i, none⟩ = some (.string (Str l[i])) := by
  obtain ⟨a, cap, h1, h2, h3, h4⟩ := h
  by_cases hl : l = []
  · subst hl; exact ⟨0, 0, cap, a, h1, h2, h3, fun h => absurd rfl h, fun i hi => absurd hi (by simp)⟩
  · obtain ⟨b, off, e, hlt, hc⟩ := h4 hl
    exact ⟨b, off, cap, a, h1, h2, h3, fun _ => ⟨e, hlt⟩, fun i hi => ⟨e, hc i hi⟩⟩
theorem IsStrs.owned {w : World} {base : Nat} {v : Value} {n : Nat} {l : List Bs} (h : w.ownsRow base 9 1 v n (l.map fun s => .string (Str s))) : IsStrs w v l := by
  have hlen := h.1
  rw [List.length_map] at hlen
  obtain rfl : n = l.length := by omega
  rcases h.2 with ⟨rfl, h0⟩ | ⟨g, cap, cur, rfl, hb, hg, hn, hm, hsz, htk⟩
  · have : l = [] := List.length_eq_zero_iff.1 h0
    subst this
    exact ⟨none, 0, rfl, Nat.le_refl _, by unfold maxLen; omega, fun h => absurd rfl h⟩
  · refine ⟨_, cap, rfl, hn, hm, fun _ => ⟨g, 0, rfl, by rw [Array.getElem?_eq_some_iff] at hg; exact hg.1, fun i hi => ?_⟩⟩
    unfold World.cell?
    simp only
    rw [hg]
    show cur[0 + i]? = _
    rw [Nat.zero_add, ← Array.getElem?_toList]
    have : (cur.toList.take (l.length * 1))[i]? = (l.map fun s => Value.string (Str s))[i]? := by rw [htk]
    rw [List.getElem?_take, if_pos (by omega)] at this
    rw [this]; simp [hi]
/-- Keys, as cells. -/
def cellsK (ks : List Bs) : List Value := ks.map fun s => .string (Str s)
theorem append_gen {w : World} {ops : Array Oper} {rest : List Oper} {o : Oper} {a : Act} {Q : Exit → Act → World → Prop} (hgd : o.guard = none) (s x : Operand) (t e : TypeId) (i0 : TypeInfo) (z : Value) (size bytes : Nat)
    (ht : Try.prog.underlying t = some (.slice e)) (hi : Try.prog.info? e = some i0) (hz0 : i0.zero = some z) (hz1 : i0.size = size) (hz2 : i0.bytes = bytes) (hzs : z.cells.size = size) (hsz : 0 < size) (hby : bytes ≤ 1000)
    (ho : o.op = .call { callee := .builtin .append, args := #[s, x], argTypes := #[t, t] }) (base : Nat) (v : Value) (n : Nat) (xs : List Value) (hs : a.eval s = v) (hown : w.ownsRow base e size v n xs)
    (p : Option Addr) (m cap : Nat) (news : List Value) (hx : a.eval x = .slice p m cap) (hnl : news.length = m * size) (hp : m ≠ 0 → ∃ ad, p = some ad ∧ ∀ j u, news[j]? = some u → w.cell? (ad.add j) = some u) (h1 : ∀ u ∈ news, u.oneCell' = true)
    (hl : n + m ≤ 100000) (hbase : base ≤ w.heap.size)
    (h : ∀ v' w', w'.ownsRow base e size v' (n + m) (xs ++ news) → Below base w w' → wpList Try.prog ops Q rest (a.put o.dst v') w') : wpList Try.prog ops Q (o :: rest) a w := by
  have hbytes : (n + m) * bytes ≤ 140737488355328 := Nat.le_trans (Nat.mul_le_mul hl hby) (by decide)
  cases p with
  | none =>
    have hm : m = 0 := by
      rcases Nat.eq_zero_or_pos m with h0 | h0
      · exact h0
      · obtain ⟨ad, h, _⟩ := hp (by omega)
        cases h
    subst hm
    have hn0 : news = [] := List.length_eq_zero_iff.1 (by simpa using hnl)
    subst hn0
    have hh := h v w (by simpa using hown) (Below.refl _ _)
    refine wpList_plain hgd fun K hK => ?_
    have hrun : (Builtin.append_ #[t, t] o.type #[v, .slice none 0 cap]).run Try.prog w = .ok v w := by
      rcases hown.2 with ⟨rfl, _⟩ | ⟨g, cap', cur, rfl, _, _, hnc, _⟩
      · simp [Builtin.append_, run_underlying ht, sizeOf, typeInfo, hi, Builtin.lenOf, Builtin.firstCells]
      · simp [Builtin.append_, run_underlying ht, sizeOf, typeInfo, hi, Builtin.lenOf, Builtin.firstCells, hnc, storeCells]
    unfold Oper.wp
    simp [execOp, ho, resolve, invoke, builtin, hs, hx, hrun, Result.andThen]
    exact hK _ _ hh
  | some ad =>
    have hcell : ∀ j u, news[j]? = some u → w.cell? (ad.add j) = some u := by
      by_cases hm : m = 0
      · have hn0 : news = [] := List.length_eq_zero_iff.1 (by rw [hnl, hm]; simp)
        subst hn0
        intro j u hj; simp at hj
      · obtain ⟨ad', e1, hc⟩ := hp hm
        cases e1
        exact hc
    refine wpList_append_own _ hgd s x t ho base e i0 z size bytes ht hi hz0 hz1 hz2 hzs hsz v n xs hs hown ad m cap news hx hnl hcell h1 (by unfold maxLen; omega) hbytes hbase ?_
    intro v' w' h2 h3 _
    exact h v' w' h2 (Below.grown (Below.refl _ _) h3 hbase (fun q hq => (hown.lt q hq).1))
theorem cells_at {w : World} {b off : Nat} {news : List Value} (hc : ∀ j u, news[j]? = some u → w.cell? ⟨b, off + j, none⟩ = some u) : ∀ j u, news[j]? = some u → w.cell? ((⟨b, off, none⟩ : Addr).add j) = some u := by
  intro j u hj
  have hadd : (⟨b, off, none⟩ : Addr).add j = ⟨b, off + j, none⟩ := by unfold Addr.add; split <;> simp_all
  rw [hadd]; exact hc j u hj
theorem append_strs {w : World} {ops : Array Oper} {rest : List Oper} {o : Oper} {a : Act} {Q : Exit → Act → World → Prop} (hgd : o.guard = none) (s x : Operand)
    (ho : o.op = .call { callee := .builtin .append, args := #[s, x], argTypes := #[66, 66] }) (base : Nat) (v : Value) (l : List Bs) (hs : a.eval s = v) (hown : w.ownsRow base 9 1 v l.length (cellsK l))
    (u : Value) (m : List Bs) (hx : a.eval x = u) (hp : IsStrs w u m) (hl : l.length + m.length ≤ 100000) (hbase : base ≤ w.heap.size)
    (h : ∀ v' w', w'.ownsRow base 9 1 v' (l ++ m).length (cellsK (l ++ m)) → Below base w w' → wpList Try.prog ops Q rest (a.put o.dst v') w') : wpList Try.prog ops Q (o :: rest) a w := by
  obtain ⟨i0, hi, hz0, hz1, hz2⟩ := info_parts infoStr
  obtain ⟨p, cap, rfl, hlc, hcm, hpp⟩ := hp
  refine append_gen hgd s x 66 9 i0 (.string ⟨#[]⟩) 1 16 Try.underlying66 hi hz0 hz1 hz2 rfl (by decide) (by decide) ho base v l.length _ hs hown p m.length cap (cellsK m) hx (by simp [cellsK]) ?_ ?_ hl hbase ?_
  · intro hm
    obtain ⟨b, off, rfl, hlt, hc⟩ := hpp (by rintro rfl; simp at hm)
    refine ⟨_, rfl, cells_at fun j u hj => ?_⟩
    obtain ⟨hj1, rfl⟩ := List.getElem?_eq_some_iff.1 hj
    have hj2 : j < m.length := by simpa [cellsK] using hj1
    rw [hc j hj2]; simp [cellsK]
  · intro u hu
    simp [cellsK] at hu
    obtain ⟨y, _, rfl⟩ := hu
    rfl
  · intro v' w' h2 h3
    refine h v' w' ?_ h3
    rw [List.length_append]; simpa [cellsK] using h2

theorem one_strs {w : World} {n : Nat} (hn : n = w.heap.size) (s : Bs) : IsStrs (w.alloc (.cells #[.string (Str s)] 9)) (.slice (some ⟨n, 0, none⟩) 1 1) [s] := by
  subst hn
  refine ⟨_, 1, rfl, Nat.le_refl _, by unfold maxLen; omega, fun _ => ⟨w.heap.size, 0, rfl, by simp, fun i hi => ?_⟩⟩
  obtain rfl : i = 0 := by simpa using hi
  have hB : Blk (w.alloc (.cells #[.string (Str s)] 9)) w.heap.size 9 #[.string (Str s)] := Blk.new _ _ _
  exact hB.c0 0 _ rfl
theorem own_drewN {w : World} {base size m : Nat} {e : TypeId} {v : Value} {xs : List Value} (h : w.ownsRow base e size v m xs) (n : Nat) : (w.drewN n).ownsRow base e size v m xs := h
theorem size_box {w : World} {B n : Nat} (o : Obj) (h : B ≤ w.heap.size) : B ≤ ((w.drewN n).alloc o).heap.size := by
  show B ≤ (w.heap.push o).size
  rw [Array.size_push]; exact Nat.le_succ_of_le h
theorem own_emptyK (W : World) (B : Nat) (hB : B ≤ W.heap.size) : (W.alloc (.cells #[] 9)).ownsRow B 9 1 (.slice (some ⟨W.heap.size, 0, none⟩) 0 0) ([] : List Bs).length (cellsK []) :=
  ⟨rfl, .inr ⟨W.heap.size, 0, #[], rfl, hB, Blk.new _ _ _, Nat.le_refl _, by unfold maxLen; omega, rfl, rfl⟩⟩


end Go.Proofs.Yticlomakmcjcfaa
