/-
  Plain theory of package route: which messages go to a kid and which stay, and the keys that are blocked. No program.
-/
import Derived.Test.YtfpcaoacbjhkgaaGreatRPA
namespace Go.Proofs.YtfpcaoacbjhkgaaGreat
set_option linter.unusedVariables false

def movesB (m : Ms) : Bool := decide (m.kind = 4) || decide (m.kind = 5)
def hasSpB (m : Ms) : Bool := decide (m.kind = 3) || decide (m.kind = 6)
def touchS (m : Ms) : List Sp := readsS m ++ writesS m
def liesB (m : Ms) (s : Sp) : Bool := (touchS m).all fun t => coversB s t
def meetB (s : Sp) (l : List Sp) : Bool := l.any fun t => !emptyB (meetS t s)
def setSp (m : Ms) (s : Sp) : Ms := { m with lo := s.1, hi := s.2 }
def onlyS (m : Ms) (s : Sp) : Ms := if hasSpB m then setSp m (meetS (m.lo, m.hi) s) else m
def partR (m : Ms) (s : Sp) : List Ms := if meetB s (writesS m) then [onlyS m s] else []
def restR (m : Ms) (s : Sp) : List Ms := if hasSpB m then (minusS [(m.lo, m.hi)] [s]).map (setSp m) else []
/-- What goes, what stays, what is blocked. -/
abbrev Wy := List Ms × List Ms × List Sp
def goW (s : Sp) (m : Ms) (w : Wy) : Wy := (w.1 ++ [onlyS m s], w.2.1 ++ restR m s, w.2.2)
def stayW (m : Ms) (l : List Sp) (w : Wy) : Wy := (w.1, w.2.1 ++ [m], w.2.2 ++ l)
/-- Whether a message (or its part) may go. -/
def goesB (s : Sp) (b : List Sp) (m : Ms) : Bool :=
  if movesB m then liesB m s && !touchB (touchS m) b else meetB s (writesS m) && !touchB (writesS (onlyS m s)) b
/-- What is blocked if a message stays. -/
def blocksS (s : Sp) (m : Ms) : List Sp := if movesB m then touchS m else if meetB s (writesS m) then writesS (onlyS m s) else []
def stepR (s : Sp) (w : Wy) (m : Ms) : Wy := if goesB s w.2.2 m then goW s m w else stayW m (blocksS s m) w
def readyF (s : Sp) (w : Wy) (l : List Ms) : Wy := l.foldl (stepR s) w
def readyW (s : Sp) (l : List Ms) : Wy := readyF s ([], [], []) l
def kidsS (ps : List Bs) : List Sp := partsF ([], []) [] ps
def kidN (k : Bs) (ps : List Bs) : Nat := ps.countP fun p => !Op.bytesLess k p
def kidSp (ps : List Bs) (i : Nat) : Sp := (kidsS ps).getD i noneS
def crossB (m : Ms) (ps : List Bs) : Bool := movesB m && !liesB m (kidSp ps (kidN m.src ps))

theorem moves_iff (m : Ms) : movesB m = true ↔ m.kind = 4 ∨ m.kind = 5 := by unfold movesB; simp
theorem hasSp_iff (m : Ms) : hasSpB m = true ↔ m.kind = 3 ∨ m.kind = 6 := by unfold hasSpB; simp
theorem moves_no_sp {m : Ms} (h : movesB m = true) : hasSpB m = false := by
  rw [Bool.eq_false_iff]; intro h2
  rcases (moves_iff m).1 h with h | h <;> rcases (hasSp_iff m).1 h2 with h2 | h2 <;> rw [h] at h2 <;> cases h2
theorem only_moves {m : Ms} (h : movesB m = true) (s : Sp) : onlyS m s = m := by unfold onlyS; rw [if_neg (by rw [moves_no_sp h]; simp)]
theorem only_kind (m : Ms) (s : Sp) : (onlyS m s).kind = m.kind := by unfold onlyS; split <;> rfl

/-! ### Keys of lists -/
theorem inB_append (l m : List Sp) (k : Bs) : inB (l ++ m) k = (inB l k || inB m k) := by unfold inB; rw [List.any_append]
theorem touch_iff (l m : List Sp) : touchB l m = true ↔ ∃ k, inB l k = true ∧ inB m k = true := by
  constructor
  · intro h
    unfold touchB at h
    obtain ⟨s, hs, h⟩ := List.any_eq_true.1 h
    obtain ⟨o, ho, h⟩ := List.any_eq_true.1 h
    have he : emptyB (meetS s o) = false := by simpa using h
    have hk := has_lo he
    rw [meet_has] at hk
    exact ⟨_, (inB_iff _ _).2 ⟨s, hs, hk.1⟩, (inB_iff _ _).2 ⟨o, ho, hk.2⟩⟩
  · rintro ⟨k, h1, h2⟩
    cases h : touchB l m with
    | true => rfl
    | false => rw [touch_no h h1] at h2; cases h2
theorem touch_eq {l m l' m' : List Sp} (h : ∀ k, inB l k = inB l' k) (h' : ∀ k, inB m k = inB m' k) : touchB l m = touchB l' m' := by
  rw [Bool.eq_iff_iff, touch_iff, touch_iff]
  exact ⟨fun ⟨k, a, b⟩ => ⟨k, by rw [← h]; exact a, by rw [← h']; exact b⟩, fun ⟨k, a, b⟩ => ⟨k, by rw [h]; exact a, by rw [h']; exact b⟩⟩
theorem touch_none {l m : List Sp} (h : ∀ k, inB l k = true → inB m k = false) : touchB l m = false := by
  rw [Bool.eq_false_iff]; intro ht
  obtain ⟨k, a, b⟩ := (touch_iff l m).1 ht
  rw [h k a] at b; cases b
theorem meet_iff (s : Sp) (l : List Sp) : meetB s l = true ↔ ∃ k, inB l k = true ∧ hasB s k = true := by
  have e : meetB s l = touchB l [s] := by unfold meetB touchB; simp
  rw [e, touch_iff]
  simp only [inB_one]
theorem meet_touch (s : Sp) (l : List Sp) : touchB l [s] = meetB s l := by unfold meetB touchB; simp
theorem covers_iff (a b : Sp) : coversB a b = true ↔ ∀ k, hasB b k = true → hasB a k = true := by
  constructor
  · intro h k hk; exact covers_has h hk
  · intro h
    cases hc : coversB a b with
    | true => rfl
    | false =>
      obtain ⟨he, h1 | ⟨h1, h2⟩⟩ := covers_not hc
      · rw [h b.1 ((hasB_iff _ _).2 (has_lo he))] at h1; cases h1
      · have := (hasB_iff _ _).1 (h a.2 h2)
        have h3 := this.2
        rw [hiP_ne h1] at h3
        have : ltP (keyP a.2) (keyP a.2) = true := h3
        rw [ltP_irrefl] at this; cases this
theorem lies_iff (m : Ms) (s : Sp) : liesB m s = true ↔ ∀ k, inB (touchS m) k = true → hasB s k = true := by
  unfold liesB
  rw [List.all_eq_true]
  constructor
  · intro h k hk
    obtain ⟨t, ht, hk⟩ := (inB_iff _ _).1 hk
    exact (covers_iff _ _).1 (h t ht) k ((hasB_iff _ _).2 hk)
  · intro h t ht
    exact (covers_iff _ _).2 fun k hk => h k ((inB_iff _ _).2 ⟨t, ht, (hasB_iff _ _).1 hk⟩)

/-! ### Kids -/
theorem kidN_at (k : Bs) : ∀ ps : List Bs, SrtP ps → AtP k ps (kidN k ps)
  | [], _ => ⟨Nat.le_refl _, fun j h _ => absurd h (Nat.not_lt_zero _), fun h => absurd h (Nat.not_lt_zero _)⟩
  | p :: r, h => by
    have ih := kidN_at k r h.2.2
    cases hp : Op.bytesLess k p with
    | true =>
      have e : kidN k (p :: r) = 0 := by
        unfold kidN
        rw [List.countP_eq_zero]
        intro q hq
        rcases List.mem_cons.1 hq with rfl | hq
        · rw [hp]; simp
        · rw [less_trans _ _ _ hp (h.2.1 q hq)]; simp
      rw [e]
      exact ⟨Nat.zero_le _, fun j hj h0 => absurd h0 (Nat.not_lt_zero _), fun _ => hp⟩
    | false =>
      have e : kidN k (p :: r) = kidN k r + 1 := by
        unfold kidN; rw [List.countP_cons_of_pos]; rw [hp]; rfl
      rw [e]
      refine ⟨by have := ih.1; simp; omega, fun j hj hja => ?_, fun hh => ih.2.2 (by simpa using hh)⟩
      cases j with
      | zero => exact hp
      | succ j => exact ih.2.1 j (by simpa using hj) (by omega)
theorem kids_len (ps : List Bs) : (kidsS ps).length = ps.length + 1 := partsF_len _ _ _
theorem kidSp_at {ps : List Bs} {i : Nat} (h : i < ps.length + 1) : kidSp ps i = (kidsS ps)[i]'(by rw [kids_len]; exact h) := by
  unfold kidSp; rw [List.getD_eq_getElem?_getD, List.getElem?_eq_getElem (by rw [kids_len]; exact h)]; rfl
theorem has_all (k : Bs) : hasB ([], []) k = true := by unfold hasB; rw [less_nil]; rfl
theorem kid_has {ps : List Bs} (h : SrtP ps) (k : Bs) {i : Nat} (hi : i < ps.length + 1) : hasB (kidSp ps i) k = decide (i = kidN k ps) := by
  rw [kidSp_at hi]
  unfold kidsS
  rw [parts_at ([], []) k ps [] _ h (less_nil k) (kidN_at k ps h), has_all, Bool.and_true]
theorem kidN_le (k : Bs) (ps : List Bs) : kidN k ps ≤ ps.length := List.countP_le_length
theorem kidN_mono {j k : Bs} (h : Op.bytesLess k j = false) (ps : List Bs) : kidN j ps ≤ kidN k ps := by
  unfold kidN
  refine List.countP_mono_left fun p _ hp => ?_
  cases hk : Op.bytesLess k p with
  | false => rfl
  | true =>
    have h1 : Op.bytesLess j p = false := by simpa using hp
    have h2 := less_le_trans hk h1
    rw [h] at h2; cases h2
theorem kid_own {ps : List Bs} (h : SrtP ps) (k : Bs) : hasB (kidSp ps (kidN k ps)) k = true := by
  rw [kid_has h k (Nat.lt_succ_of_le (kidN_le k ps))]; simp
/-- A span lies in one kid at most. -/
theorem kid_one {ps : List Bs} (h : SrtP ps) {i j : Nat} (hi : i < ps.length + 1) (hj : j < ps.length + 1) {k : Bs} (h1 : hasB (kidSp ps i) k = true) (h2 : hasB (kidSp ps j) k = true) : i = j := by
  rw [kid_has h k hi] at h1
  rw [kid_has h k hj] at h2
  rw [of_decide_eq_true h1, of_decide_eq_true h2]
theorem reads_src {m : Ms} (h : movesB m = true) : inB (readsS m) m.src = true := by
  unfold readsS
  have e : hasB (preS m.src) m.src = true := by rw [has_pre]; exact prefix_self m.src
  rcases (moves_iff m).1 h with h | h
  · rw [if_pos h, inB_one]; exact e
  · rw [if_neg (by rw [h]; decide), if_pos h, inB_one]; exact e
theorem touch_src {m : Ms} (h : movesB m = true) : inB (touchS m) m.src = true := by
  unfold touchS; rw [inB_append, reads_src h]; rfl
/-- A Move or Clone lies in a kid's span only if that kid has its source. -/
theorem lies_kid {ps : List Bs} (hs : SrtP ps) {m : Ms} (h : movesB m = true) {i : Nat} (hi : i < ps.length + 1) (hl : liesB m (kidSp ps i) = true) : i = kidN m.src ps := by
  have := (lies_iff m _).1 hl m.src (touch_src h)
  rw [kid_has hs _ hi] at this
  exact of_decide_eq_true this
theorem cross_iff {ps : List Bs} (hs : SrtP ps) {m : Ms} : crossB m ps = (movesB m && (kidsS ps).all fun s => !liesB m s) := by
  unfold crossB
  cases hm : movesB m with
  | false => rfl
  | true =>
    rw [Bool.true_and, Bool.true_and]
    cases hl : liesB m (kidSp ps (kidN m.src ps)) with
    | true =>
      symm
      rw [Bool.not_true, List.all_eq_false]
      have hi : kidN m.src ps < ps.length + 1 := Nat.lt_succ_of_le (kidN_le _ _)
      refine ⟨kidSp ps (kidN m.src ps), ?_, by rw [hl]; simp⟩
      rw [kidSp_at hi]; exact List.getElem_mem _
    | false =>
      symm
      rw [Bool.not_false, List.all_eq_true]
      intro s hss
      obtain ⟨i, hi, rfl⟩ := List.mem_iff_getElem.1 hss
      have hi' : i < ps.length + 1 := by rw [kids_len] at hi; exact hi
      rw [← kidSp_at hi']
      cases h : liesB m (kidSp ps i) with
      | false => rfl
      | true => rw [lies_kid hs hm hi' h] at h; rw [h] at hl; cases hl

/-! ### Blocked keys as the program keeps them: spans in order that do not meet -/
def OrdD (b : List Sp) : Prop := b.Pairwise (fun x y => hiP x.2 ≤ keyP y.1) ∧ ∀ x ∈ b, keyP x.1 < hiP x.2
def bfromT (s x : Sp) : Bool := x.2.isEmpty || Op.bytesLess s.1 x.2
def btoT (s x : Sp) : Bool := !s.2.isEmpty && !Op.bytesLess x.1 s.2
def bfrom (b : List Sp) (s : Sp) : Nat := b.countP fun x => !bfromT s x
def bto (b : List Sp) (s : Sp) : Nat := b.countP fun x => !btoT s x
theorem bfromT_iff (s x : Sp) : bfromT s x = true ↔ keyP s.1 < hiP x.2 := by
  unfold bfromT
  cases h : x.2 with
  | nil => simp [hiP_nil]; exact keyP_top _
  | cons a r =>
    rw [hiP_ne (by simp)]
    simp only [List.isEmpty_cons, Bool.false_or]
    exact Iff.rfl
theorem btoT_iff (s x : Sp) : btoT s x = true ↔ hiP s.2 ≤ keyP x.1 := by
  unfold btoT
  cases h : s.2 with
  | nil =>
    simp only [List.isEmpty_nil, Bool.not_true, Bool.false_and, hiP_nil]
    constructor
    · intro h; cases h
    · intro h; have := keyP_top x.1; grind
  | cons a r =>
    rw [hiP_ne (by simp)]
    simp only [List.isEmpty_cons, Bool.not_false, Bool.true_and, Bool.not_eq_true']
    exact Iff.rfl
theorem ord_nil : OrdD [] := ⟨List.Pairwise.nil, fun x h => by cases h⟩
theorem bfrom_pair {b : List Sp} (h : OrdD b) (s : Sp) : b.Pairwise (fun x y => bfromT s x = true → bfromT s y = true) := by
  refine h.1.imp_of_mem fun {x y} hx hy hxy => ?_
  rw [bfromT_iff, bfromT_iff]
  have h2 := h.2 y hy
  grind
theorem bto_pair {b : List Sp} (h : OrdD b) (s : Sp) : b.Pairwise (fun x y => btoT s x = true → btoT s y = true) := by
  refine h.1.imp_of_mem fun {x y} hx hy hxy => ?_
  rw [btoT_iff, btoT_iff]
  have h2 := h.2 x hx
  grind
theorem mono_cut {α : Type} (p : α → Bool) : ∀ {d : List α}, d.Pairwise (fun x y => p x = true → p y = true) →
    (∀ x ∈ d.take (d.countP fun x => !p x), p x = false) ∧ (∀ x ∈ d.drop (d.countP fun x => !p x), p x = true)
  | [], _ => ⟨fun x h => by simp at h, fun x h => by simp at h⟩
  | a :: r, h => by
    obtain ⟨h1, h2⟩ := List.pairwise_cons.1 h
    obtain ⟨i1, i2⟩ := mono_cut p h2
    cases ha : p a with
    | true =>
      have e : (a :: r).countP (fun x => !p x) = 0 := by
        rw [List.countP_eq_zero]; intro x hx
        rcases List.mem_cons.1 hx with rfl | hx
        · rw [ha]; simp
        · rw [h1 x hx ha]; simp
      rw [e]
      refine ⟨fun x hx => by simp at hx, fun x hx => ?_⟩
      rcases List.mem_cons.1 (by simpa using hx) with rfl | hx
      · exact ha
      · exact h1 x hx ha
    | false =>
      have e : (a :: r).countP (fun x => !p x) = r.countP (fun x => !p x) + 1 := by
        rw [List.countP_cons_of_pos]; rw [ha]; rfl
      rw [e]
      refine ⟨fun x hx => ?_, fun x hx => i2 x (by simpa using hx)⟩
      rw [List.take_succ_cons] at hx
      rcases List.mem_cons.1 hx with rfl | hx
      · exact ha
      · exact i1 x hx
theorem bfrom_le {b : List Sp} (h : OrdD b) {s : Sp} (hs : keyP s.1 < hiP s.2) : bfrom b s ≤ bto b s := by
  unfold bfrom bto
  refine List.countP_mono_left fun x hx hp => ?_
  cases ht : btoT s x with
  | false => rfl
  | true =>
    exfalso
    have h1 := (btoT_iff s x).1 ht
    have h2 : bfromT s x = false := by simpa using hp
    have h3 : ¬ keyP s.1 < hiP x.2 := fun hh => by rw [(bfromT_iff s x).2 hh] at h2; cases h2
    have h4 := h.2 x hx
    grind
theorem bto_len (b : List Sp) (s : Sp) : bto b s ≤ b.length := List.countP_le_length
theorem bfrom_len (b : List Sp) (s : Sp) : bfrom b s ≤ b.length := List.countP_le_length
/-- What meets a span lies between both places. -/
theorem meets_eq {b : List Sp} (h : OrdD b) {s : Sp} (hs : keyP s.1 < hiP s.2) : decide (bfrom b s < bto b s) = touchB [s] b := by
  obtain ⟨f1, f2⟩ := mono_cut _ (bfrom_pair h s)
  obtain ⟨t1, t2⟩ := mono_cut _ (bto_pair h s)
  rw [Bool.eq_iff_iff, touch_iff, decide_eq_true_iff]
  constructor
  · intro hlt
    have hl := bto_len b s
    have hb : bfrom b s < b.length := by omega
    have m1 : b[bfrom b s] ∈ b.drop (bfrom b s) := by
      rw [List.mem_drop_iff_getElem]; exact ⟨0, by omega, by simp⟩
    have m2 : b[bfrom b s] ∈ b.take (bto b s) := by
      rw [List.mem_take_iff_getElem]
      exact ⟨bfrom b s, by omega, rfl⟩
    have a1 := (bfromT_iff _ _).1 (f2 _ m1)
    have a2 : ¬ hiP s.2 ≤ keyP b[bfrom b s].1 := fun hh => by have := t1 _ m2; rw [(btoT_iff _ _).2 hh] at this; cases this
    have a3 := h.2 _ (List.getElem_mem hb)
    generalize b[bfrom b s] = x at *
    by_cases hc : keyP s.1 ≤ keyP x.1
    · exact ⟨x.1, by rw [inB_one, hasB_iff]; exact ⟨hc, by grind⟩, (inB_iff _ _).2 ⟨x, List.mem_of_mem_drop m1, ⟨by grind, a3⟩⟩⟩
    · exact ⟨s.1, by rw [inB_one, hasB_iff]; exact ⟨by grind, hs⟩, (inB_iff _ _).2 ⟨x, List.mem_of_mem_drop m1, ⟨by grind, a1⟩⟩⟩
  · rintro ⟨k, h1, h2⟩
    rw [inB_one, hasB_iff] at h1
    obtain ⟨x, hx, hk⟩ := (inB_iff _ _).1 h2
    obtain ⟨j, hj, rfl⟩ := List.mem_iff_getElem.1 hx
    have c1 : bfromT s b[j] = true := (bfromT_iff _ _).2 (by have := h1.1; have := hk.2; grind)
    have c2 : btoT s b[j] = false := by
      rw [Bool.eq_false_iff]; intro hh
      have := (btoT_iff _ _).1 hh
      have := h1.2; have := hk.1
      grind
    have g1 : bfrom b s ≤ j := by
      rcases Nat.lt_or_ge j (bfrom b s) with hh | hh
      · have := f1 b[j] (by rw [List.mem_take_iff_getElem]; exact ⟨j, by unfold bfrom at hh; omega, rfl⟩)
        rw [c1] at this; cases this
      · exact hh
    have g2 : j < bto b s := by
      rcases Nat.lt_or_ge j (bto b s) with hh | hh
      · exact hh
      · have := t2 b[j] (by rw [List.mem_drop_iff_getElem]; exact ⟨j - bto b s, by unfold bto at hh ⊢; omega, by congr 1; unfold bto at hh ⊢; omega⟩)
        rw [c2] at this; cases this
    omega
def withS (b : List Sp) (s : Sp) : List Sp := b.take (bfrom b s) ++ (normS ((b.take (bto b s)).drop (bfrom b s) ++ [s]) ++ b.drop (bto b s))
def withL (b l : List Sp) : List Sp := l.foldl withS b
theorem cut3 {α : Type} (b : List α) (i j : Nat) (h : i ≤ j) : b.take i ++ ((b.take j).drop i ++ b.drop j) = b := by
  rw [take_part b i j h, List.take_append_drop]
theorem nrm_ord : ∀ {l : List Sp}, Nrm l → OrdD l
  | [], _ => ord_nil
  | s :: r, h => by
    have ih := nrm_ord h.2.2
    refine ⟨List.pairwise_cons.2 ⟨fun y hy => ?_, ih.1⟩, fun x hx => ?_⟩
    · have := h.2.1 y hy; grind
    · rcases List.mem_cons.1 hx with rfl | hx
      · exact (emptyB_no _).1 h.1
      · exact ih.2 x hx
theorem normS_len (l : List Sp) : (normS l).length ≤ l.length := by
  have h := sweep_length (srt (evs 0 l ++ evs 1 [])) 0 0 false []
  have hp : (srt (evs 0 l ++ evs 1 [])).length = (evs 0 l).length := by
    rw [(srt_perm _).length_eq, List.length_append]; rfl
  have he := evs_length 0 l
  unfold normS minusS
  rw [hp] at h
  simp only [Bool.false_eq_true, ↓reduceIte, Nat.add_zero] at h
  omega
theorem with_len {b : List Sp} (s : Sp) (h : bfrom b s ≤ bto b s) : (withS b s).length ≤ b.length + 1 := by
  have h1 := normS_len ((b.take (bto b s)).drop (bfrom b s) ++ [s])
  unfold withS
  have hl := bto_len b s
  simp only [List.length_append, List.length_take, List.length_drop, List.length_cons, List.length_nil] at h1 ⊢
  omega
theorem with_ord {b : List Sp} (hb : OrdD b) {s : Sp} (hs : keyP s.1 < hiP s.2) : OrdD (withS b s) ∧ ∀ k, inB (withS b s) k = (inB b k || hasB s k) := by
  obtain ⟨f1, f2⟩ := mono_cut _ (bfrom_pair hb s)
  obtain ⟨t1, t2⟩ := mono_cut _ (bto_pair hb s)
  have hle := bfrom_le hb hs
  have hcut := cut3 b _ _ hle
  have hN := nrm_ord (norm_nrm ((b.take (bto b s)).drop (bfrom b s) ++ [s]))
  have hk : ∀ k, inB (normS ((b.take (bto b s)).drop (bfrom b s) ++ [s])) k = (inB ((b.take (bto b s)).drop (bfrom b s)) k || hasB s k) := fun k => by
    rw [Bool.eq_iff_iff, inB_iff, norm_in, ← inB_iff, inB_append, inB_one]
  change (∀ x ∈ b.take (bfrom b s), _) at f1
  change (∀ x ∈ b.drop (bto b s), _) at t2
  have hA : ∀ x ∈ b.take (bfrom b s), x ∈ b := fun x h => List.mem_of_mem_take h
  have hC : ∀ x ∈ b.drop (bto b s), x ∈ b := fun x h => List.mem_of_mem_drop h
  have hM : ∀ x ∈ (b.take (bto b s)).drop (bfrom b s), x ∈ b := fun x h => List.mem_of_mem_take (List.mem_of_mem_drop h)
  have hpw := hb.1
  rw [← hcut] at hpw
  unfold withS
  generalize hAe : b.take (bfrom b s) = A at *
  generalize hMe : (b.take (bto b s)).drop (bfrom b s) = M at *
  generalize hCe : b.drop (bto b s) = C at *
  obtain ⟨pA, pMC, pX⟩ := List.pairwise_append.1 hpw
  obtain ⟨pM, pC, pY⟩ := List.pairwise_append.1 pMC
  -- the keys of the middle lie between
  have lowN : ∀ x ∈ A, ∀ y ∈ normS (M ++ [s]), hiP x.2 ≤ keyP y.1 := fun x hx y hy => by
    have h1 := hN.2 y hy
    have h2 : inB (normS (M ++ [s])) y.1 = true := (inB_iff _ _).2 ⟨y, hy, ⟨by grind, h1⟩⟩
    rw [hk, Bool.or_eq_true] at h2
    rcases h2 with h2 | h2
    · obtain ⟨z, hz, hzk⟩ := (inB_iff _ _).1 h2
      have h3 := pX x hx z (List.mem_append_left _ hz)
      have := hzk.1
      grind
    · have h4 := (hasB_iff _ _).1 h2
      have h5 : ¬ keyP s.1 < hiP x.2 := fun hh => by have := f1 x hx; rw [(bfromT_iff _ _).2 hh] at this; cases this
      have := h4.1
      grind
  have highN : ∀ y ∈ normS (M ++ [s]), ∀ z ∈ C, hiP y.2 ≤ keyP z.1 := fun y hy z hz => by
    have h1 := hN.2 y hy
    by_cases hc : hiP y.2 ≤ keyP z.1
    · exact hc
    exfalso
    -- the greater of both beginnings
    have hb1 : ∃ k, hasB y k = true ∧ keyP z.1 ≤ keyP k := by
      by_cases hg : keyP z.1 ≤ keyP y.1
      · exact ⟨y.1, (hasB_iff _ _).2 ⟨by grind, h1⟩, hg⟩
      · exact ⟨z.1, (hasB_iff _ _).2 ⟨by grind, by grind⟩, by grind⟩
    obtain ⟨k, hyk, hzk⟩ := hb1
    have h2 : inB (normS (M ++ [s])) k = true := (inB_iff _ _).2 ⟨y, hy, (hasB_iff _ _).1 hyk⟩
    rw [hk, Bool.or_eq_true] at h2
    rcases h2 with h2 | h2
    · obtain ⟨u, hu, huk⟩ := (inB_iff _ _).1 h2
      have h3 := pY u hu z hz
      have := huk.2
      grind
    · have h4 := ((hasB_iff _ _).1 h2).2
      have h5 := (btoT_iff _ _).1 (t2 z hz)
      grind
  refine ⟨⟨?_, ?_⟩, fun k => ?_⟩
  · refine List.pairwise_append.2 ⟨pA, List.pairwise_append.2 ⟨hN.1, pC, highN⟩, fun x hx y hy => ?_⟩
    rcases List.mem_append.1 hy with hy | hy
    · exact lowN x hx y hy
    · exact pX x hx y (List.mem_append_right _ hy)
  · intro x hx
    rcases List.mem_append.1 hx with hx | hx
    · exact hb.2 x (hA x hx)
    rcases List.mem_append.1 hx with hx | hx
    · exact hN.2 x hx
    · exact hb.2 x (hC x hx)
  · rw [inB_append, inB_append, hk, ← hcut, inB_append, inB_append]
    cases inB A k <;> cases inB M k <;> cases inB C k <;> cases hasB s k <;> rfl
theorem withL_ord : ∀ (l b : List Sp), OrdD b → (∀ s ∈ l, emptyB s = false) → OrdD (withL b l) ∧ (∀ k, inB (withL b l) k = inB (b ++ l) k) ∧ (withL b l).length ≤ b.length + l.length
  | [], b, h, _ => ⟨h, fun k => by rw [List.append_nil]; rfl, Nat.le_refl _⟩
  | s :: l, b, h, hl => by
    have hs := (emptyB_no s).1 (hl s (by simp))
    obtain ⟨h1, h2⟩ := with_ord h hs
    have h3 := with_len s (bfrom_le h hs)
    obtain ⟨i1, i2, i3⟩ := withL_ord l (withS b s) h1 fun x hx => hl x (by simp [hx])
    refine ⟨i1, fun k => ?_, by simp only [List.length_cons]; have : (withL b (s :: l)).length = (withL (withS b s) l).length := rfl; omega⟩
    have e : inB (withL b (s :: l)) k = inB (withL (withS b s) l) k := rfl
    rw [e, i2, inB_append, h2, inB_append]
    show _ = (inB b k || (hasB s k || inB l k))
    rw [Bool.or_assoc]

end Go.Proofs.YtfpcaoacbjhkgaaGreat
