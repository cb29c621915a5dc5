/-
  Walks: the effects of messages. Walks: the effect of a move, of a stamp; Apply and All. Walks: Apply and All.
-/
import Derived.Test.YthpajecigkfajaaMAC
import Derived.Test.YthpajecigkfajaaMRR
import Derived.Test.YthpajecigkfajaaMFG
namespace Go.Proofs.Ythpajecigkfajaa
open Go.RowKit Go.Sort
set_option linter.unusedVariables false

/-- Nothing that was there has changed. -/
structure SB (w wx : World) : Prop where
  g : Below w.heap.size w wx
theorem SB.below {w wx wy : World} (h : SB w wx) (hb : Below wx.heap.size wx wy) : SB w wy := ⟨h.g.trans (hb.mono h.g.size)⟩
theorem SB.drew {w wx : World} (h : SB w wx) : SB w wx.drew := h.below (below_drewN wx 1)
theorem SB.refl (w : World) : SB w w := ⟨Below.refl _ _⟩

theorem clone_facts (a b : Bs) {l : List Pr} (hs : Srt l) : Srt (dropS (preS b) l) ∧ Srt (movedT a b l) ∧ (dropS (preS b) l).length ≤ l.length ∧ (movedT a b l).length ≤ l.length :=
  ⟨srt_drop _ hs, srt_moved a b hs, List.length_filter_le _ _, by rw [moved_map, List.length_map]; exact List.length_filter_le _ _⟩

end Go.Proofs.Ythpajecigkfajaa
namespace Go.Proofs.Ythpajecigkfajaa
open Go.RowKit Go.Sort
set_option linter.unusedVariables false

/-- The first k stamps are set. -/
def stK (s : Sp) (n : Int) (l : List Pr) (k : Nat) : List Pr := (stampT s n l).take k ++ l.drop k
theorem stamp_len (s : Sp) (n : Int) (l : List Pr) : (stampT s n l).length = l.length := by unfold stampT; simp
theorem stK_len (s : Sp) (n : Int) (l : List Pr) (k : Nat) (h : k ≤ l.length) : (stK s n l k).length = l.length := by
  unfold stK; rw [List.length_append, List.length_take, List.length_drop, stamp_len]; omega
theorem stK_zero (s : Sp) (n : Int) (l : List Pr) : stK s n l 0 = l := by unfold stK; simp
theorem stK_all (s : Sp) (n : Int) (l : List Pr) : stK s n l l.length = stampT s n l := by
  unfold stK; rw [List.drop_length, List.take_of_length_le (by rw [stamp_len]; exact Nat.le_refl _)]; simp
theorem stK_at (s : Sp) (n : Int) (l : List Pr) (k : Nat) (h : k < l.length) : (stK s n l k)[k]'(by rw [stK_len s n l k (by omega)]; exact h) = l[k] := by
  unfold stK
  rw [List.getElem_append_right (by rw [List.length_take, stamp_len]; omega)]
  simp [List.getElem_drop, stamp_len]
  congr 1; omega
theorem stK_set (s : Sp) (n : Int) (l : List Pr) (k : Nat) (h : k < l.length) : (stK s n l k).set k (stampP s n l[k]) = stK s n l (k + 1) := by
  unfold stK
  rw [List.set_append_right _ _ (by rw [List.length_take, stamp_len]; omega)]
  have e1 : k - ((stampT s n l).take k).length = 0 := by rw [List.length_take, stamp_len]; omega
  rw [e1, List.drop_eq_getElem_cons h, List.set_cons_zero, List.take_add_one]
  unfold stampT
  rw [List.getElem?_map, List.getElem?_eq_getElem h]
  simp
theorem stK_skip (s : Sp) (n : Int) (l : List Pr) (k : Nat) (h : k < l.length) (hh : hasB s l[k].1 = false) : stK s n l (k + 1) = stK s n l k := by
  rw [← stK_set s n l k h]
  have e : stampP s n l[k] = (stK s n l k)[k]'(by rw [stK_len s n l k (by omega)]; exact h) := by rw [stK_at s n l k h]; unfold stampP; rw [hh]; rfl
  rw [e]; exact List.set_getElem_self _
theorem flatP_stamp (T : List Pr) (i : Nat) (h : i < T.length) (n : Int) : (T.flatMap encP).set (i * 3 + 2) (.int .i64 n) = (T.set i (T[i].1, T[i].2.1, n)).flatMap encP := by
  induction T generalizing i with
  | nil => simp at h
  | cons t r ih =>
    have e : ∀ (t : Pr) r, (t :: r).flatMap encP = .string (Str t.1) :: .string (Str t.2.1) :: .int .i64 t.2.2 :: r.flatMap encP := fun t r => rfl
    cases i with
    | zero => rw [List.set_cons_zero, e, e]; rfl
    | succ i =>
      rw [List.set_cons_succ, e, e]
      have ih' := ih i (by simpa using h)
      have h2 : (i + 1) * 3 + 2 = i * 3 + 2 + 1 + 1 + 1 := by omega
      rw [h2]
      simp only [List.set_cons_succ, List.getElem_cons_succ]
      rw [ih']
theorem stamp_small {s : Sp} {n : Int} {l : List Pr} (h : ∀ x ∈ l, x.1.length ≤ maxLen ∧ x.2.1.length ≤ maxLen) : ∀ x ∈ stampT s n l, x.1.length ≤ maxLen ∧ x.2.1.length ≤ maxLen := by
  intro x hx
  obtain ⟨y, hy, rfl⟩ := List.mem_map.1 hx
  have := h y hy
  unfold stampP; split <;> exact this

/-- What stays while a round of Stamp reads. -/
structure SQ (w : World) (pb : Nat) (x : Pr) (vv : Value) (n : Nat) (xs : List Value) (wx : World) : Prop where
  g : Below w.heap.size w wx
  p : Blk wx pb 45 #[.string (Str x.1), .string (Str x.2.1), .int .i64 x.2.2]
  o : wx.ownsRow w.heap.size 45 3 vv n xs
theorem SQ.below {w wx wy : World} {pb : Nat} {x : Pr} {vv : Value} {n : Nat} {xs : List Value} (h : SQ w pb x vv n xs wx) (hb : Below wx.heap.size wx wy) : SQ w pb x vv n xs wy :=
  ⟨h.g.trans (hb.mono h.g.size), h.p.below hb h.p.lt, owns_below h.o hb⟩
theorem SQ.drew {w wx : World} {pb : Nat} {x : Pr} {vv : Value} {n : Nat} {xs : List Value} (h : SQ w pb x vv n xs wx) : SQ w pb x vv n xs wx.drew := h.below (below_drewN wx 1)

end Go.Proofs.Ythpajecigkfajaa
namespace Go.Proofs.Ythpajecigkfajaa
open Go.RowKit Go.Sort
set_option linter.unusedVariables false

/-- A slice of messages. -/
def MAt (w : World) (b o : Nat) (m : Ms) : Prop :=
  w.cell? ⟨b, o, none⟩ = some (.int .i64 m.kind) ∧ w.cell? ⟨b, o + 1, none⟩ = some (.string (Str m.key)) ∧ w.cell? ⟨b, o + 2, none⟩ = some (.string (Str m.val)) ∧ w.cell? ⟨b, o + 3, none⟩ = some (.string (Str m.lo)) ∧
  w.cell? ⟨b, o + 4, none⟩ = some (.string (Str m.hi)) ∧ w.cell? ⟨b, o + 5, none⟩ = some (.string (Str m.src)) ∧ w.cell? ⟨b, o + 6, none⟩ = some (.string (Str m.dst)) ∧ w.cell? ⟨b, o + 7, none⟩ = some (.int .i64 m.n)
theorem MAt.below {w w' : World} {b o : Nat} {m : Ms} (h : MAt w b o m) {B : Nat} (hb : Below B w w') (hl : b < B) : MAt w' b o m := by
  have e : ∀ k, w'.cell? ⟨b, k, none⟩ = w.cell? ⟨b, k, none⟩ := fun k => hb.cell (p := ⟨b, k, none⟩) hl
  unfold MAt at *
  simp only [e]; exact h
def IsMsgs (w : World) (v : Value) (l : List Ms) : Prop :=
  ∃ a cap, v = .slice a l.length cap ∧ l.length ≤ cap ∧ cap ≤ maxLen ∧ (l ≠ [] → ∃ b off, a = some ⟨b, off, none⟩ ∧ b < w.heap.size ∧ ∀ i (h : i < l.length), MAt w b (off + i * 8) l[i])
theorem IsMsgs.below {w w' : World} {v : Value} {l : List Ms} (h : IsMsgs w v l) (hb : Below w.heap.size w w') : IsMsgs w' v l := by
  obtain ⟨a, cap, h1, h2, h3, h4⟩ := h
  refine ⟨a, cap, h1, h2, h3, fun hl => ?_⟩
  obtain ⟨b, off, e, hlt, hc⟩ := h4 hl
  exact ⟨b, off, e, Nat.lt_of_lt_of_le hlt hb.size, fun i hi => (hc i hi).below hb hlt⟩
theorem IsMsgs.form {w : World} {v : Value} {l : List Ms} (h : IsMsgs w v l) : ∃ b off cap a, v = .slice a l.length cap ∧ l.length ≤ cap ∧ cap ≤ maxLen ∧ (l ≠ [] → a = some ⟨b, off, none⟩ ∧ b < w.heap.size) ∧
    ∀ i (h : i < l.length), a = some ⟨b, off, none⟩ ∧ MAt w b (off + i * 8) l[i] := by
  obtain ⟨a, cap, h1, h2, h3, h4⟩ := h
  by_cases hl : l = []
  · subst hl; exact ⟨0, 0, cap, a, h1, h2, h3, fun h => absurd rfl h, fun i hi => absurd hi (by simp)⟩
  · obtain ⟨b, off, e, hlt, hc⟩ := h4 hl
    exact ⟨b, off, cap, a, h1, h2, h3, fun _ => ⟨e, hlt⟩, fun i hi => ⟨e, hc i hi⟩⟩

theorem srt_stamp (s : Sp) (n : Int) {l : List Pr} (h : Srt l) : Srt (stampT s n l) := by
  unfold stampT Srt
  rw [List.pairwise_map]
  refine List.Pairwise.imp (fun {x y} hxy => ?_) h
  have e : ∀ z : Pr, (stampP s n z).1 = z.1 := fun z => by unfold stampP; split <;> rfl
  rw [e, e]; exact hxy
theorem srt_apply (m : Ms) {l : List Pr} (h : Srt l) : Srt (applyS m l) := by
  unfold applyS
  split
  · exact srt_put _ h
  split
  · exact srt_del _ h
  split
  · exact srt_drop _ h
  split
  · exact srt_drop _ (srt_union (srt_drop _ h) _)
  split
  · exact srt_union (srt_drop _ h) _
  split
  · exact srt_stamp _ _ h
  exact h
theorem srt_all (ms : List Ms) {l : List Pr} (h : Srt l) : Srt (allS ms l) := by
  induction ms generalizing l with
  | nil => exact h
  | cons m ms ih => exact ih (srt_apply m h)
theorem all_take (ms : List Ms) (l : List Pr) (k : Nat) (h : k < ms.length) : allS (ms.take (k + 1)) l = applyS ms[k] (allS (ms.take k) l) := by
  unfold allS
  rw [List.take_add_one, List.getElem?_eq_getElem h, List.foldl_append]; rfl
/-- On the way no table is too long, and no key. -/
def OkAll (ms : List Ms) (l : List Pr) : Prop := ∀ k, k ≤ ms.length → (allS (ms.take k) l).length ≤ 100000000 ∧ ∀ x ∈ allS (ms.take k) l, x.1.length ≤ 1000000000

end Go.Proofs.Ythpajecigkfajaa
