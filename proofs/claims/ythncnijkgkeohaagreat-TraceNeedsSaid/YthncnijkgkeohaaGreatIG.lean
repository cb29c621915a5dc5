/-
  Plain facts of the laws of package trace; what is known of a key, compared.
-/
import Derived.Test.YthncnijkgkeohaaGreatIC
import Derived.Laws.StructEq
namespace Go.Proofs.YthncnijkgkeohaaGreat
open Go.RowKit Go.Sort
set_option linter.unusedVariables false

def dropM : Ms := ⟨3, [], [], [], [], [], [], 0⟩
def putM (s : Bs) (n : Int) : Ms := ⟨1, s, [118], [], [], [], [], n⟩
theorem dropM_ok : Ok dropM := by unfold Ok SizeM; decide
theorem putM_ok (s : Bs) (n : Int) (h1 : 1 ≤ s.length) (h2 : s.length ≤ 60) (h3 : 0 ≤ n) (h4 : n ≤ 1000000000) : Ok (putM s n) := by
  refine ⟨⟨by show s.length ≤ _; omega, by show ([118] : Bs).length ≤ _; simp, Nat.zero_le _, Nat.zero_le _, Nat.zero_le _, Nat.zero_le _⟩, ?_⟩
  have e1 : fitsB (putM s n) = true := by
    unfold fitsB putM keyB stampB
    simp
    omega
  have e2 : bareM (putM s n) = zeroM (putM s n).kind := by unfold bareM putM zeroM; rfl
  unfold validM
  rw [e1, e2]
  simp
theorem all_has (k : Bs) : hasB ([], []) k = true := by
  unfold hasB
  rw [less_nil]; rfl
theorem key_none (s : Bs) : keyF s [] = ⟨false, false, (s, [], 0), s, false, 0⟩ := rfl
theorem key_drop (s : Bs) (ms : List Ms) : keyF s (ms ++ [dropM]) = ⟨true, false, ([], [], 0), [], false, 0⟩ := by
  unfold keyF
  rw [List.reverse_append, List.reverse_cons, List.reverse_nil, List.nil_append, List.cons_append, List.nil_append, follow]
  have e : lookK dropM (startF s) = goneF := by
    show endF (hasB ([], []) s) (startF s) = goneF
    rw [all_has]; rfl
  rw [e]; rfl
theorem key_put (s : Bs) (n : Int) (ms : List Ms) : keyF s (ms ++ [putM s n]) = ⟨true, true, (s, [118], n), [], false, 0⟩ := by
  unfold keyF
  rw [List.reverse_append, List.reverse_cons, List.reverse_nil, List.nil_append, List.cons_append, List.nil_append, follow]
  have e : lookK (putM s n) (startF s) = ⟨true, true, (s, [118], n), [], false, 0⟩ := by
    show (if s == s then _ else _) = _
    rw [if_pos (by simp)]; rfl
  rw [e]; rfl
theorem nrm_nokey {l : List Sp} (h : Nrm l) (hk : ∀ k, ¬ InL l k) : l = [] := by
  cases l with
  | nil => rfl
  | cons a r => exact absurd ⟨a, by simp, has_lo h.1⟩ (hk a.1)
theorem spans_drop {ms : List Ms} (hv : ∀ m ∈ ms, validM m = true) : spansF ([], []) (ms ++ [dropM]) = [] := by
  have hv2 : ∀ m ∈ ms ++ [dropM], validM m = true := fun m hm => by
    rcases List.mem_append.1 hm with h | h
    · exact hv m h
    · rw [List.mem_singleton] at h; subst h; exact dropM_ok.2
  refine nrm_nokey (spans_nrm _ hv2) fun k hk => ?_
  obtain ⟨j, -, h⟩ := (spans_in _ hv2 k).1 hk
  rw [comesK_append] at h
  have e : comesK [dropM] j = none := by
    show (srcK dropM j).bind (fromK []) = none
    have : srcK dropM j = none := by
      show (if hasB ([], []) j then none else some j) = none
      rw [all_has]; rfl
    rw [this]; rfl
  rw [e] at h
  cases h
theorem spans_one (s : Bs) : spansF (s, []) [] = [(s, [])] := by
  show normS [(s, [])] = [(s, [])]
  refine norm_of ⟨?_, by simp, trivial⟩ fun k => Iff.rfl
  rw [emptyB_no]
  exact keyP_top s

/-! ### Comparing what is known of keys -/
def fdQ (f g : Fd) : Bool := decide (f.known = g.known ∧ f.has = g.has ∧ f.pair = g.pair ∧ f.key = g.key ∧ f.stamped = g.stamped ∧ f.stamp = g.stamp)
theorem fdQ_iff (f g : Fd) : fdQ f g = true ↔ f = g := by
  obtain ⟨f1, f2, f3, f4, f5, f6⟩ := f
  obtain ⟨g1, g2, g3, g4, g5, g6⟩ := g
  simp [fdQ]
set_option maxRecDepth 1000000 in
set_option maxHeartbeats 1000000 in
theorem eql_same_fd (f : Fd) (w : World) : (binOp .eql 35 (fdV f) (fdV f)).run Tryz.prog w = .ok (.bool true) w := by
  obtain ⟨f1, f2, ⟨f3, f4, f5⟩, f6, f7, f8⟩ := f
  go_simp

end Go.Proofs.YthncnijkgkeohaaGreat
