/-
  Plain facts for the law TraceParts: a key and spans, followed through two lists.
-/
import Derived.Test.YthncnijkgkeohaaIJ
namespace Go.Proofs.Ythncnijkgkeohaa
open Go.RowKit Go.Sort
set_option linter.unusedVariables false

/-! ### The lengths of ends, for short messages -/
def Few5 (m : Ms) : Prop := m.key.length ≤ 100 ∧ m.lo.length ≤ 100 ∧ m.hi.length ≤ 100 ∧ m.src.length ≤ 100 ∧ m.dst.length ≤ 100
theorem back_len5 {M : Nat} (hM : 101 ≤ M) {m : Ms} (hm : Few5 m) {L : List Sp} (h : LenS M L) : LenS (M + 100) (backS m L) := by
  obtain ⟨h1, h2, h3, h4, h5⟩ := hm
  have hone : LenS M [oneS m.key] := fun x hx => by rw [List.mem_singleton] at hx; subst hx; exact ⟨by show m.key.length ≤ M; omega, by show (m.key ++ [0]).length ≤ M; simp; omega⟩
  unfold backS
  split
  · exact (minus_lenS (by omega) h hone).mono (by omega)
  split
  · exact (minus_lenS (by omega) h hone).mono (by omega)
  split
  · exact (minus_lenS (by omega) h (fun x hx => by rw [List.mem_singleton] at hx; subst hx; exact ⟨by show m.lo.length ≤ M; omega, by show m.hi.length ≤ M; omega⟩)).mono (by omega)
  split
  · exact moveB_lenS (by omega) h4 (by omega) (minus_lenS (by omega) h (fun x hx => by rw [List.mem_singleton] at hx; subst hx; exact ⟨by show m.src.length ≤ M; omega, Nat.le_trans (preT_lenF _) (by omega)⟩))
  split
  · exact moveB_lenS (by omega) h4 (by omega) h
  · exact h.mono (by omega)
theorem backs_len5 : ∀ (r : List Ms) {M : Nat} {L : List Sp}, 101 ≤ M → (∀ m ∈ r, Few5 m) → LenS M L → LenS (M + 100 * r.length) (r.foldl (fun L m => backS m L) L)
  | [], M, L, _, _, h => h
  | m :: r, M, L, hM, hm, h => by
    have h2 := backs_len5 r (M := M + 100) (by omega) (fun x hx => hm x (List.mem_cons_of_mem _ hx)) (back_len5 hM (hm m List.mem_cons_self) h)
    rw [List.foldl_cons, List.length_cons]
    exact h2.mono (by omega)
theorem spans_len5 {s : Sp} {l : List Ms} {M : Nat} (hM : 101 ≤ M) (h1 : s.1.length ≤ M) (h2 : s.2.length ≤ M) (hm : ∀ m ∈ l, Few5 m) : LenS (M + 100 * l.length) (spansF s l) := by
  have h := backs_len5 l.reverse hM (fun m h => hm m (by simpa using h)) (norm_lenS (l := [s]) (fun x hx => by rw [List.mem_singleton] at hx; subst hx; exact ⟨h1, h2⟩))
  rw [List.length_reverse] at h
  exact h
theorem made_few5 (a b c d e f : Nat) : Few5 (madeM a b c d e f) := by
  have k1 := key_len b
  have t1 := to_len b d
  have s1 := span_small b d e
  have p1 := path_len b
  unfold Few5 madeM
  split
  · simp; omega
  split
  · simp; omega
  split
  · simp; omega
  split
  · simp [pathS] at *; omega
  split
  · simp [pathS] at *; omega
  · simp; omega
theorem listS_few5 (x : List R6) (n : Nat) : ∀ m ∈ listS x n, Few5 m := by
  intro m hm
  unfold listS at hm
  rw [List.mem_map] at hm
  obtain ⟨y, -, rfl⟩ := hm
  exact made_few5 _ _ _ _ _ _

/-! ### A key, followed through two lists -/
def wantU (k : Bs) (st : Bool) (n : Int) (g : Fd) : Fd :=
  ⟨g.known, g.has, (if !g.known || g.has then k else g.pair.1, g.pair.2.1, if g.has && st then n else g.pair.2.2), g.key, if !g.known && st then true else g.stamped, if !g.known && st then n else g.stamp⟩
theorem want_known (k : Bs) (st : Bool) (n : Int) (g : Fd) : (wantU k st n g).known = g.known := rfl
theorem want_gone (k : Bs) (st : Bool) (n : Int) : wantU k st n goneF = goneF := rfl
theorem look_want (m : Ms) (k : Bs) (st : Bool) (n : Int) (g : Fd) (hk : g.known = false) (hh : g.has = false) : lookK m (wantU k st n g) = wantU k st n (lookK m g) := by
  obtain ⟨g1, g2, ⟨g3, g4, g5⟩, g6, g7, g8⟩ := g
  cases hk
  cases hh
  have e0 : wantU k st n ⟨false, false, (g3, g4, g5), g6, g7, g8⟩ = ⟨false, false, (k, g4, g5), g6, if st then true else g7, if st then n else g8⟩ := rfl
  have hback : backF m ⟨false, false, (k, g4, g5), g6, if st then true else g7, if st then n else g8⟩ = wantU k st n (backF m ⟨false, false, (g3, g4, g5), g6, g7, g8⟩) := by
    unfold backF
    dsimp only
    cases movedS g6 m.dst m.src <;> rfl
  have hend : ∀ b, endF b ⟨false, false, (k, g4, g5), g6, if st then true else g7, if st then n else g8⟩ = wantU k st n (endF b ⟨false, false, (g3, g4, g5), g6, g7, g8⟩) := by
    intro b
    cases b <;> rfl
  rw [e0]
  unfold lookK
  dsimp only
  by_cases k1 : m.kind = 1
  · rw [if_pos k1, if_pos k1]
    cases g6 == m.key
    · rfl
    · cases st <;> rfl
  rw [if_neg k1, if_neg k1]
  by_cases k2 : m.kind = 2
  · rw [if_pos k2, if_pos k2]; exact hend _
  rw [if_neg k2, if_neg k2]
  by_cases k3 : m.kind = 3
  · rw [if_pos k3, if_pos k3]; exact hend _
  rw [if_neg k3, if_neg k3]
  by_cases k4 : m.kind = 4
  · rw [if_pos k4, if_pos k4]
    cases m.dst.isPrefixOf g6
    · exact hend _
    · exact hback
  rw [if_neg k4, if_neg k4]
  by_cases k5 : m.kind = 5
  · rw [if_pos k5, if_pos k5]; exact hback
  rw [if_neg k5, if_neg k5]
  by_cases k6 : m.kind = 6
  · rw [if_pos k6, if_pos k6]
    cases st <;> cases g7 <;> cases hasB (m.lo, m.hi) g6 <;> rfl
  rw [if_neg k6, if_neg k6]
  rfl
theorem follow_want (k : Bs) (st : Bool) (n : Int) : ∀ (r : List Ms) (g : Fd), g.known = false → g.has = false → follow r (wantU k st n g) = wantU k st n (follow r g)
  | [], _, _, _ => rfl
  | m :: r, g, hk, hh => by
    unfold follow
    rw [look_want m k st n g hk hh, want_known]
    cases e : (lookK m g).known with
    | true => rfl
    | false =>
      rw [if_neg (by simp), if_neg (by simp)]
      rcases look_src m hk hh with ⟨-, h⟩ | ⟨_, -, h1, h2, -, -⟩
      · rw [e] at h; cases h
      · exact follow_want k st n r (lookK m g) h1 h2
theorem follow_append : ∀ (r q : List Ms) (f : Fd), f.known = false → follow (r ++ q) f = if (follow r f).known then follow r f else follow q (follow r f)
  | [], q, f, hf => by
    show follow q f = if f.known then f else follow q f
    rw [hf]; rfl
  | m :: r, q, f, hf => by
    show (if (lookK m f).known then lookK m f else follow (r ++ q) (lookK m f)) = if (if (lookK m f).known then lookK m f else follow r (lookK m f)).known then (if (lookK m f).known then lookK m f else follow r (lookK m f)) else follow q (if (lookK m f).known then lookK m f else follow r (lookK m f))
    cases e : (lookK m f).known with
    | true => simp [e]
    | false =>
      simp only [Bool.false_eq_true, if_false]
      exact follow_append r q _ e
def NoSt (f : Fd) : Prop := f.stamped = false → f.stamp = 0
theorem look_nost (m : Ms) {f : Fd} (h : NoSt f) : NoSt (lookK m f) := by
  have hend : ∀ b, NoSt (endF b f) := by
    intro b
    cases b
    · exact h
    · exact fun _ => rfl
  have hback : NoSt (backF m f) := by
    unfold backF
    cases movedS f.key m.dst m.src <;> exact h
  unfold lookK
  split
  · split
    · exact fun _ => rfl
    · exact h
  split
  · exact hend _
  split
  · exact hend _
  split
  · split
    · exact hback
    · exact hend _
  split
  · exact hback
  split
  · split
    · exact fun e => by cases e
    · exact h
  · exact h
theorem follow_nost : ∀ (r : List Ms) {f : Fd}, NoSt f → NoSt (follow r f)
  | [], _, h => h
  | m :: r, f, h => by
    unfold follow
    split
    · exact look_nost m h
    · exact follow_nost r (look_nost m h)
/-- P7.4 for keys. -/
theorem key_parts (k : Bs) (a b : List Ms) : keyF k (a ++ b) = if (keyF k b).known then keyF k b else wantU k (keyF k b).stamped (keyF k b).stamp (keyF (keyF k b).key a) := by
  have e : keyF k (a ++ b) = follow (b.reverse ++ a.reverse) (startF k) := by unfold keyF; rw [List.reverse_append]
  rw [e, follow_append _ _ _ rfl]
  show (if (keyF k b).known then keyF k b else follow a.reverse (keyF k b)) = _
  cases hk : (keyF k b).known with
  | true => rfl
  | false =>
    simp only [Bool.false_eq_true, if_false]
    obtain ⟨-, h1, h2⟩ := key_from b k hk
    have h3 : NoSt (keyF k b) := follow_nost b.reverse (fun _ => rfl)
    have e2 : keyF k b = wantU k (keyF k b).stamped (keyF k b).stamp (startF (keyF k b).key) := by
      generalize keyF k b = f at *
      obtain ⟨f1, f2, f3, f4, f5, f6⟩ := f
      dsimp only at hk h1 h2
      subst hk h1 h2
      cases f5 with
      | true => rfl
      | false =>
        have : f6 = 0 := h3 rfl
        subst this
        rfl
    have e3 := follow_want k (keyF k b).stamped (keyF k b).stamp a.reverse (startF (keyF k b).key) rfl rfl
    rw [← e2] at e3
    exact e3
/-- P7.4 for spans. -/
theorem spans_parts (s : Sp) {a b : List Ms} (ha : ∀ m ∈ a, validM m = true) (hb : ∀ m ∈ b, validM m = true) : normS ((spansF s b).flatMap fun x => spansF x a) = spansF s (a ++ b) := by
  have hv : ∀ m ∈ a ++ b, validM m = true := fun m hm => (List.mem_append.1 hm).elim (ha m) (hb m)
  refine norm_of (spans_nrm s hv) fun k => ?_
  rw [spans_in s hv]
  have e : InL ((spansF s b).flatMap fun x => spansF x a) k ↔ ∃ x ∈ spansF s b, InL (spansF x a) k := by
    constructor
    · rintro ⟨y, hy, h⟩
      obtain ⟨x, hx, hyx⟩ := List.mem_flatMap.1 hy
      exact ⟨x, hx, y, hyx, h⟩
    · rintro ⟨x, hx, y, hy, h⟩
      exact ⟨y, List.mem_flatMap.2 ⟨x, hx, hy⟩, h⟩
  rw [e]
  constructor
  · rintro ⟨j, h1, h2⟩
    rw [comesK_append] at h2
    obtain ⟨i, h3, h4⟩ := Option.bind_eq_some_iff.1 h2
    obtain ⟨x, hx, h5⟩ := (spans_in s hb i).2 ⟨j, h1, h3⟩
    exact ⟨x, hx, (spans_in x ha k).2 ⟨i, h5, h4⟩⟩
  · rintro ⟨x, hx, h⟩
    obtain ⟨i, h5, h4⟩ := (spans_in x ha k).1 h
    obtain ⟨j, h1, h3⟩ := (spans_in s hb i).1 ⟨x, hx, h5⟩
    exact ⟨j, h1, by rw [comesK_append, h3]; exact h4⟩
set_option maxRecDepth 1000000 in
set_option maxHeartbeats 1000000 in
theorem neq_same_fd (f : Fd) (w : World) : (binOp .neq 32 (fdV f) (fdV f)).run Try.prog w = .ok (.bool false) w := by
  obtain ⟨f1, f2, ⟨f3, f4, f5⟩, f6, f7, f8⟩ := f
  go_simp

end Go.Proofs.Ythncnijkgkeohaa
