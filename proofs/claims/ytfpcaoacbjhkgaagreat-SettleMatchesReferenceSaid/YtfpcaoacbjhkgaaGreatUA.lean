/-
  Plain: the settled messages of a message, and what they do. No program.
-/
import Derived.Test.YtfpcaoacbjhkgaaGreatRPB
namespace Go.Proofs.YtfpcaoacbjhkgaaGreat
set_option linter.unusedVariables false

def keyT (m : Ms) (x : Bs) : Bs := m.dst ++ x.drop m.src.length
def dropM (p : Bs) : Ms := ⟨3, [], [], p, preT p, [], [], 0⟩
def putM (m : Ms) (p : Pr) : Ms := ⟨1, keyT m p.1, p.2.1, [], [], [], [], p.2.2⟩
def endM (m : Ms) : List Ms := if m.kind = 4 then [dropM m.src] else []
/-- The settled messages. -/
def settledS (m : Ms) (t : List Pr) : List Ms := if movesB m then dropM m.dst :: (t.map (putM m) ++ endM m) else [m]
/-- What a message moves. -/
def sourceS (m : Ms) (t : List Pr) : List Pr := if movesB m then rangeS (preS m.src) t else []
theorem settled_moves {m : Ms} (h : movesB m = true) (t : List Pr) : settledS m t = dropM m.dst :: (t.map (putM m) ++ endM m) := by unfold settledS; rw [if_pos h]
theorem settled_other {m : Ms} (h : movesB m = false) (t : List Pr) : settledS m t = [m] := by unfold settledS; rw [if_neg (by rw [h]; simp)]
theorem source_moves {m : Ms} (h : movesB m = true) (t : List Pr) : sourceS m t = rangeS (preS m.src) t := by unfold sourceS; rw [if_pos h]
theorem source_other {m : Ms} (h : movesB m = false) (t : List Pr) : sourceS m t = [] := by unfold sourceS; rw [if_neg (by rw [h]; simp)]
theorem endM_len (m : Ms) : (endM m).length ≤ 1 := by unfold endM; split <;> simp
theorem settled_len (m : Ms) (t : List Pr) : (settledS m t).length ≤ t.length + 2 := by
  have := endM_len m
  unfold settledS
  split
  · simp; omega
  · simp
theorem source_len (m : Ms) (t : List Pr) : (sourceS m t).length ≤ t.length := by
  unfold sourceS
  split
  · exact List.length_filter_le _ _
  · simp
theorem source_mem {m : Ms} {t : List Pr} {x : Pr} (h : x ∈ sourceS m t) : x ∈ t ∧ m.src.isPrefixOf x.1 = true := by
  unfold sourceS at h
  split at h
  · rw [mem_range, has_pre] at h; exact h
  · cases h
theorem srt_source (m : Ms) {t : List Pr} (h : Srt t) : Srt (sourceS m t) := by
  unfold sourceS
  split
  · exact srt_range _ h
  · exact srt_nil
theorem apply_putU (m : Ms) (p : Pr) (u : List Pr) : applyS (putM m p) u = putS (keyT m p.1, p.2) u := rfl
theorem apply_dropU (p : Bs) (u : List Pr) : applyS (dropM p) u = dropS (preS p) u := rfl
theorem puts_all (m : Ms) : ∀ (t u : List Pr), allS (t.map (putM m)) u = unionS u (t.map fun x => (keyT m x.1, x.2))
  | [], u => rfl
  | x :: t, u => by
    rw [List.map_cons, List.map_cons]
    show allS (t.map (putM m)) (applyS (putM m x) u) = unionS (putS (keyT m x.1, x.2) u) _
    rw [puts_all m t, apply_putU]
theorem all_appU (a b : List Ms) (t : List Pr) : allS (a ++ b) t = allS b (allS a t) := by unfold allS; rw [List.foldl_append]
theorem moved_source (m : Ms) (t : List Pr) (h : movesB m = true) : (sourceS m t).map (fun x => (keyT m x.1, x.2)) = movedT m.src m.dst t := by
  rw [moved_map, source_moves h]
  unfold preS
  rw [range_prefix]
  rfl
/-- The settled messages have the effect of the message. -/
theorem settled_all (m : Ms) (t : List Pr) : allS (settledS m (sourceS m t)) t = applyS m t := by
  cases h : movesB m with
  | false => rw [settled_other h]; rfl
  | true =>
    rw [settled_moves h]
    show allS (_ ++ endM m) (applyS (dropM m.dst) t) = _
    rw [all_appU, puts_all, moved_source m t h, apply_dropU]
    rcases (moves_iff m).1 h with hk | hk
    · unfold endM applyS
      rw [hk]
      rfl
    · unfold endM applyS
      rw [hk]
      rfl
/-- All messages of a list, one after the other, settled with what they move then. -/
def settleL : List Ms → List Pr → List Ms
  | [], _ => []
  | m :: r, t => settledS m (sourceS m t) ++ settleL r (applyS m t)
theorem settleL_all : ∀ (l : List Ms) (t : List Pr), allS (settleL l t) t = allS l t
  | [], _ => rfl
  | m :: r, t => by
    rw [settleL, all_appU, settled_all, settleL_all r]
    rfl
theorem settleL_app : ∀ (a : List Ms) (m : Ms) (t : List Pr), settleL (a ++ [m]) t = settleL a t ++ settledS m (sourceS m (allS a t))
  | [], m, t => by simp [settleL, allS]
  | x :: a, m, t => by
    rw [List.cons_append, settleL, settleL_app a, settleL, List.append_assoc]
    rfl
theorem settleL_take (l : List Ms) (t : List Pr) (k : Nat) (h : k < l.length) : settleL (l.take (k + 1)) t = settleL (l.take k) t ++ settledS l[k] (sourceS l[k] (allS (l.take k) t)) := by
  rw [List.take_succ_eq_append_getElem h, settleL_app]
theorem moves_drop (p : Bs) : movesB (dropM p) = false := rfl
theorem moves_put (m : Ms) (p : Pr) : movesB (putM m p) = false := rfl
theorem mem_settled {m o : Ms} {t : List Pr} (h : o ∈ settledS m t) : (movesB m = false ∧ o = m) ∨ (movesB m = true ∧ ((∃ p, (p = m.dst ∨ p = m.src) ∧ o = dropM p) ∨ ∃ x ∈ t, o = putM m x)) := by
  cases hm : movesB m with
  | false => rw [settled_other hm] at h; exact .inl ⟨rfl, by simpa using h⟩
  | true =>
    rw [settled_moves hm] at h
    refine .inr ⟨rfl, ?_⟩
    rcases List.mem_cons.1 h with rfl | h
    · exact .inl ⟨_, .inl rfl, rfl⟩
    rcases List.mem_append.1 h with h | h
    · obtain ⟨x, hx, rfl⟩ := List.mem_map.1 h
      exact .inr ⟨x, hx, rfl⟩
    · unfold endM at h
      split at h
      · exact .inl ⟨_, .inr rfl, by simpa using h⟩
      · cases h
/-- No settled message moves. -/
theorem settled_still {m o : Ms} {t : List Pr} (h : o ∈ settledS m t) : movesB o = false := by
  rcases mem_settled h with ⟨h1, rfl⟩ | ⟨_, ⟨p, _, rfl⟩ | ⟨x, _, rfl⟩⟩
  · exact h1
  · rfl
  · rfl
theorem settleL_still : ∀ (l : List Ms) (t : List Pr), ∀ o ∈ settleL l t, movesB o = false
  | [], _, o, h => by cases h
  | m :: r, t, o, h => by
    rw [settleL] at h
    rcases List.mem_append.1 h with h | h
    · exact settled_still h
    · exact settleL_still r _ o h
theorem still_cross {m : Ms} (h : movesB m = false) (ps : List Bs) : crossB m ps = false := by unfold crossB; rw [h]; rfl

/-- The first message that crosses. -/
def firstS (ps : List Bs) (l : List Ms) : Option Nat := l.findIdx? fun m => crossB m ps
/-- The buffer with its first message turned. -/
def turnS (l : List Ms) (t : List Pr) : List Ms := match l with | [] => [] | m :: r => settledS m t ++ r
theorem turn_all (m : Ms) (r : List Ms) (t : List Pr) : allS (turnS (m :: r) (sourceS m t)) t = allS (m :: r) t := by
  show allS (settledS m (sourceS m t) ++ r) t = _
  rw [all_appU, settled_all]
  rfl

end Go.Proofs.YtfpcaoacbjhkgaaGreat
