/-
  An append of a whole slice of any element type to an own row.
-/
import Derived.Test.YthpajecigkfajaaY3
import Derived.Test.YthpajecigkfajaaYJD
namespace Go.Proofs.Ythpajecigkfajaa
open Go.RowKit Go.Deep Go.Sort
set_option linter.unusedVariables false
def IsAny {α : Type} (en : α → List Value) (k : Nat) (w : World) (v : Value) (l : List α) : Prop :=
  ∃ a cap, v = .slice a l.length cap ∧ (l ≠ [] → ∃ b off, a = some ⟨b, off, none⟩ ∧ ∀ i (h : i < l.length) (j : Nat) (u : Value), (en l[i])[j]? = some u → w.cell? ⟨b, off + i * k + j, none⟩ = some u)
theorem flat_any {α : Type} {en : α → List Value} {k : Nat} (hen : ∀ x, (en x).length = k) : ∀ (l : List α) (j : Nat) (u : Value), (l.flatMap en)[j]? = some u → ∃ i r, ∃ h : i < l.length, j = i * k + r ∧ (en l[i])[r]? = some u
  | [], j, u, h => by simp at h
  | x :: l, j, u, h => by
    rw [List.flatMap_cons] at h
    by_cases hj : j < k
    · rw [List.getElem?_append_left (by rw [hen]; exact hj)] at h
      exact ⟨0, j, by simp, by simp, h⟩
    · rw [List.getElem?_append_right (by rw [hen]; omega), hen] at h
      obtain ⟨i, r, hi, e, hu⟩ := flat_any hen l (j - k) u h
      exact ⟨i + 1, r, by simpa using hi, by rw [Nat.succ_mul]; omega, hu⟩
theorem flat_lenA {α : Type} {en : α → List Value} {k : Nat} (hen : ∀ x, (en x).length = k) (l : List α) : (l.flatMap en).length = l.length * k := by
  induction l with
  | nil => simp
  | cons x l ih => rw [List.flatMap_cons, List.length_append, hen, ih, List.length_cons, Nat.succ_mul]; omega
theorem append_any {α : Type} {en : α → List Value} {w : World} {ops : Array Oper} {rest : List Oper} {o : Oper} {a : Act} {Q : Exit → Act → World → Prop} (hgd : o.guard = none) (s x : Operand) (t e : TypeId) (z : Value) (k bytes : Nat)
    (info : (Try.prog.info? e).map (fun i => (i.zero, i.size, i.bytes)) = some (some z, k, bytes)) (ht : Try.prog.underlying t = some (.slice e)) (hzs : z.cells.size = k) (hk : 0 < k) (hby : bytes ≤ 1000) (hen : ∀ y, (en y).length = k) (h1 : ∀ y, ∀ u ∈ en y, u.oneCell' = true)
    (ho : o.op = .call { callee := .builtin .append, args := #[s, x], argTypes := #[t, t] }) (base : Nat) (v : Value) (l : List α) (hs : a.eval s = v) (hown : w.ownsRow base e k v l.length (l.flatMap en))
    (u : Value) (m : List α) (hx : a.eval x = u) (hp : IsAny en k w u m) (hl : l.length + m.length ≤ 1000000000) (hbase : base ≤ w.heap.size)
    (h : ∀ v' w', w'.ownsRow base e k v' (l ++ m).length ((l ++ m).flatMap en) → Below base w w' → wpList Try.prog ops Q rest (a.put o.dst v') w') : wpList Try.prog ops Q (o :: rest) a w := by
  obtain ⟨i0, hi, hz0, hz1, hz2⟩ := info_parts info
  obtain ⟨p, cap, rfl, hpp⟩ := hp
  refine append_gen hgd s x t e i0 z k bytes ht hi hz0 hz1 hz2 hzs hk hby ho base v l.length _ hs hown p m.length cap (m.flatMap en) hx (flat_lenA hen m) ?_ (fun u hu => ?_) hl hbase ?_
  · intro hm
    obtain ⟨b, off, rfl, hc⟩ := hpp (by rintro rfl; simp at hm)
    refine ⟨_, rfl, cells_at fun j u hj => ?_⟩
    obtain ⟨i, r, hi', rfl, hu⟩ := flat_any hen m j u hj
    rw [← Nat.add_assoc]
    exact hc i hi' r u hu
  · obtain ⟨y, _, hy⟩ := List.mem_flatMap.1 hu
    exact h1 y u hy
  · intro v' w' h2 h3
    refine h v' w' ?_ h3
    rw [List.length_append, List.flatMap_append]; exact h2

end Go.Proofs.Ythpajecigkfajaa
