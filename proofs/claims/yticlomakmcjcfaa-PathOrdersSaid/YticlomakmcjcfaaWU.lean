/-
  Plain facts for PathMoves and PathOrders. No program.
-/
import Derived.Test.YticlomakmcjcfaaS5
import Derived.Test.YticlomakmcjcfaaS4
namespace Go.Proofs.Yticlomakmcjcfaa

/-- What the parser of a tag tells, whatever the path is. -/
theorem taggedS_path (r p : Bs) : taggedS ⟨r, p, 0, 0, []⟩ = ((taggedS ⟨r, [], 0, 0, []⟩).1, { (taggedS ⟨r, [], 0, 0, []⟩).2 with path := p }) := by
  cases r with
  | nil => rfl
  | cons x r =>
    simp only [taggedS]
    split
    · rfl
    · split
      · match r with
        | [] => rfl
        | [_] => rfl
        | _ :: _ :: _ => rfl
      · split <;> rfl
/-- What stands behind a path. -/
def restPlace (s : Bs) : Option (Int × Int × Bs) :=
  let f := taggedS ⟨restP s, [], 0, 0, []⟩
  if f.1 = true ∧ f.2.rest = [] then some (f.2.tag, f.2.n, f.2.name) else none
theorem place_behind {p : Bs} (hv : validB p = true) (hp : p ≠ []) (s : Bs) : placeS (p ++ s) = (restPlace s).map fun x => ⟨[], p ++ pathP s, x.1, x.2.1, x.2.2⟩ := by
  obtain ⟨c, t, e, hc⟩ := valid_head hv hp
  have hr := chB_range hc
  have h6 : markS 6 (p ++ s) = none := by
    rw [e]; simp only [List.cons_append, markS]; rw [if_neg (by omega)]
  have hno : ¬ (10 ≤ (p ++ s).length ∧ bodyB ((p ++ s).take 10) = true) := by
    rintro ⟨h1, h2⟩
    have h5 := bodyB_head h2
    rw [List.getElem?_take, if_pos (by omega), e] at h5
    simp at h5
    rw [h5] at hr
    revert hr; decide
  have ho : ownP (p ++ s) = (p ++ pathP s, restP s) := by
    unfold ownP
    rw [if_neg hno, pathP_valid hv, restP_valid hv]
  unfold placeS keyS
  rw [h6]
  simp only [ho]
  rw [taggedS_path]
  unfold restPlace
  generalize taggedS ⟨restP s, [], 0, 0, []⟩ = f
  obtain ⟨g, r, q, t2, n2, m2⟩ := f
  simp only
  split
  · rename_i h
    rw [h.2]; rfl
  · rfl

/-- What Place tells of a path with a rest behind it. -/
def behV (p s : Bs) : Bs × Int × Int × Bs × Int := match restPlace s with
  | some x => (p ++ pathP s, x.1, x.2.1, x.2.2, 0)
  | none => ([], 0, 0, [], 12)

end Go.Proofs.Yticlomakmcjcfaa
