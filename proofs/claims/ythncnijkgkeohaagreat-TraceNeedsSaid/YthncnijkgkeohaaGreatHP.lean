/- Package trace, plain: following keys and spans back through messages, and what that tells. -/
import Derived.Test.YthncnijkgkeohaaGreatFR
set_option linter.unusedSimpArgs false
set_option linter.unusedVariables false
namespace Go.Proofs.YthncnijkgkeohaaGreat

theorem bfalse {b : Bool} (h : ¬ b = true) : b = false := by cases b; rfl; exact absurd rfl h
/-- What is known of a key. -/
structure Fd where
  known : Bool
  has : Bool
  pair : Pr
  key : Bs
  stamped : Bool
  stamp : Int
def goneF : Fd := ⟨true, false, ([], [], 0), [], false, 0⟩
def startF (k : Bs) : Fd := ⟨false, false, (k, [], 0), k, false, 0⟩
def pairF (f : Fd) (v : Bs) (n : Int) : Pr := (f.pair.1, v, if f.stamped then f.stamp else n)
def endF (b : Bool) (f : Fd) : Fd := if b then goneF else f
def backF (m : Ms) (f : Fd) : Fd := match movedS f.key m.dst m.src with | some k => { f with key := k } | none => f
def lookK (m : Ms) (f : Fd) : Fd :=
  if m.kind = 1 then (if f.key == m.key then ⟨true, true, pairF f m.val m.n, [], false, 0⟩ else f)
  else if m.kind = 2 then endF (f.key == m.key) f
  else if m.kind = 3 then endF (hasB (m.lo, m.hi) f.key) f
  else if m.kind = 4 then (if m.dst.isPrefixOf f.key then backF m f else endF (m.src.isPrefixOf f.key) f)
  else if m.kind = 5 then backF m f
  else if m.kind = 6 then (if !f.stamped && hasB (m.lo, m.hi) f.key then { f with stamped := true, stamp := m.n } else f)
  else f
def follow : List Ms → Fd → Fd
  | [], f => f
  | m :: r, f => if (lookK m f).known then lookK m f else follow r (lookK m f)
def keyF (k : Bs) (l : List Ms) : Fd := follow l.reverse (startF k)
def valF (f : Fd) (p : Pr) (has : Bool) : Pr × Bool := if f.known then (f.pair, f.has) else if has then (pairF f p.2.1 p.2.2, true) else (([], [], 0), false)
def optP (o : Option Pr) : Pr := o.getD ([], [], 0)
def readF (f : Fd) (t : List Pr) : Pr × Bool := valF f (optP (findS f.key t)) (findS f.key t).isSome
theorem readF_known {f : Fd} (h : f.known = true) (t u : List Pr) : readF f t = readF f u := by unfold readF valF; rw [h]; rfl
theorem readF_some {f : Fd} (h : f.known = false) {t : List Pr} {x : Pr} (e : findS f.key t = some x) : readF f t = (pairF f x.2.1 x.2.2, true) := by unfold readF valF; rw [h, e]; rfl
theorem readF_none {f : Fd} (h : f.known = false) {t : List Pr} (e : findS f.key t = none) : readF f t = (([], [], 0), false) := by unfold readF valF; rw [h, e]; rfl
theorem readF_of {f : Fd} (h : f.known = false) {t u : List Pr} (e : findS f.key t = findS f.key u) : readF f t = readF f u := by unfold readF; rw [e]

/-! ### Finding in effects -/
theorem find_drop (s : Sp) {t : List Pr} (ht : Srt t) (k : Bs) : findS k (dropS s t) = if hasB s k then none else findS k t := by
  by_cases h : hasB s k = true
  · rw [if_pos h, find_none]
    intro x hx e
    have := ((mem_drop s t x).1 hx).2
    rw [e, h] at this; cases this
  · rw [if_neg h]
    refine find_of (srt_drop s ht) ht k fun x hx => ?_
    rw [mem_drop, hx]; simp [h]
theorem find_stamp (s : Sp) (n : Int) {t : List Pr} (ht : Srt t) (k : Bs) : findS k (stampT s n t) = (findS k t).map (stampP s n) := by
  cases e : findS k t with
  | none =>
    rw [find_none] at e
    rw [Option.map_none, find_none]
    intro x hx
    obtain ⟨y, hy, rfl⟩ := (mem_stamp s n t x).1 hx
    rw [stampP_key]; exact e y hy
  | some x =>
    rw [find_some ht] at e
    rw [Option.map_some, find_some (srt_stamp' s n ht)]
    exact ⟨(mem_stamp s n t _).2 ⟨x, e.1, rfl⟩, by rw [stampP_key]; exact e.2⟩
theorem moved_find (a b : Bs) {t : List Pr} (ht : Srt t) (r : Bs) : findS (b ++ r) (movedT a b t) = (findS (a ++ r) t).map fun x => (b ++ r, x.2) := by
  cases e : findS (a ++ r) t with
  | none =>
    rw [find_none] at e
    rw [Option.map_none, find_none]
    intro x hx hk
    obtain ⟨r', h1, h2⟩ := (mem_moved a b t x).1 hx
    rw [h2] at hk
    have := List.append_cancel_left hk
    subst this
    exact e _ h1 rfl
  | some x =>
    rw [find_some ht] at e
    rw [Option.map_some, find_some (srt_moved a b ht)]
    refine ⟨(mem_moved a b t _).2 ⟨r, ?_, rfl⟩, rfl⟩
    rw [← e.2]; exact e.1
theorem find_clone (a b : Bs) {t : List Pr} (ht : Srt t) (k : Bs) : findS k (cloneT a b t) = if b.isPrefixOf k then findS k (movedT a b t) else findS k t := by
  have hc : Srt (cloneT a b t) := srt_union (srt_drop _ ht) _
  by_cases h : b.isPrefixOf k = true
  · rw [if_pos h]
    refine find_of hc (srt_moved a b ht) k fun x hx => ?_
    rw [mem_clone a b ht, hx, h]; simp
  · rw [if_neg h]
    refine find_of hc ht k fun x hx => ?_
    rw [mem_clone a b ht, hx]
    have hm : ¬ x ∈ movedT a b t := fun hm => h (by have := moved_pre hm; rwa [hx] at this)
    simp [h, hm]
theorem find_move (a b : Bs) {t : List Pr} (ht : Srt t) (k : Bs) : findS k (moveT a b t) = if a.isPrefixOf k then none else findS k (cloneT a b t) := by
  show findS k (dropS (preS a) (cloneT a b t)) = _
  have hc : Srt (cloneT a b t) := srt_union (srt_drop _ ht) _
  rw [find_drop (preS a) hc, has_pre]

theorem pairF_key (f : Fd) (k : Bs) (v : Bs) (n : Int) : pairF { f with key := k } v n = pairF f v n := rfl
theorem backF_pre {m : Ms} {f : Fd} {r : Bs} (h : f.key = m.dst ++ r) : backF m f = { f with key := m.src ++ r } := by unfold backF; rw [h, moved_app]
theorem backF_not {m : Ms} {f : Fd} (h : m.dst.isPrefixOf f.key = false) : backF m f = f := by unfold backF movedS; rw [h]; rfl
/-- The one step: what a message does to what is read. -/
theorem look_read (m : Ms) {f : Fd} (hf : f.known = false) {t : List Pr} (ht : Srt t) (hv : validM m = true) : readF (lookK m f) t = readF f (applyS m t) := by
  have hclone : ∀ r, f.key = m.dst ++ r → readF { f with key := m.src ++ r } t = readF f (movedT m.src m.dst t) := by
    intro r hr
    have e := moved_find m.src m.dst ht r
    cases q : findS (m.src ++ r) t with
    | none =>
      rw [q, Option.map_none] at e
      rw [readF_none (f := { f with key := m.src ++ r }) hf q, readF_none hf (by rw [hr]; exact e)]
    | some x =>
      rw [q, Option.map_some] at e
      rw [readF_some (f := { f with key := m.src ++ r }) hf q, readF_some hf (by rw [hr]; exact e)]; rfl
  unfold lookK applyS
  split
  · by_cases h : (f.key == m.key) = true
    · rw [if_pos h]
      have h : f.key = m.key := by simpa using h
      rw [readF_some hf (x := (m.key, m.val, m.n)) (by rw [h]; exact put_find (m.key, m.val, m.n) ht)]; rfl
    · rw [if_neg h]
      have h : f.key ≠ m.key := by simpa using h
      exact readF_of hf (put_other (m.key, m.val, m.n) ht f.key h).symm
  split
  · by_cases h : (f.key == m.key) = true
    · rw [h]
      have h : f.key = m.key := by simpa using h
      rw [readF_none hf (by rw [h]; exact del_find m.key t)]; rfl
    · rw [bfalse h]
      have h : f.key ≠ m.key := by simpa using h
      exact readF_of hf (del_other m.key ht f.key h).symm
  split
  · have e := find_drop (m.lo, m.hi) ht f.key
    by_cases h : hasB (m.lo, m.hi) f.key = true
    · rw [h]; rw [if_pos h] at e; rw [readF_none hf e]; rfl
    · rw [if_neg h] at e; rw [bfalse h]; exact readF_of hf e.symm
  split
  · rename_i hk
    have e := find_move m.src m.dst ht f.key
    rw [find_clone m.src m.dst ht] at e
    obtain ⟨-, -, a3, a4⟩ : frontB m.src = true ∧ frontB m.dst = true ∧ m.dst.isPrefixOf m.src = false ∧ m.src.isPrefixOf m.dst = false := by
      unfold validM fitsB at hv
      rw [Bool.and_eq_true] at hv
      have := hv.1
      rw [if_neg (by omega), if_neg (by omega), if_neg (by omega), if_pos (by omega)] at this
      simpa [apartB, Bool.and_eq_true] using this
    by_cases h : m.dst.isPrefixOf f.key = true
    · rw [if_pos h]
      obtain ⟨r, hr⟩ := pre_split h
      rw [if_pos h, if_neg (by rw [hr, apart_pre a3 a4]; simp)] at e
      rw [backF_pre hr, hclone r hr]; exact readF_of hf e.symm
    · rw [if_neg h]
      rw [if_neg h] at e
      by_cases h2 : m.src.isPrefixOf f.key = true
      · rw [if_pos h2] at e; rw [h2, readF_none hf e]; rfl
      · rw [if_neg h2] at e; rw [bfalse h2]; exact readF_of hf e.symm
  split
  · have e := find_clone m.src m.dst ht f.key
    by_cases h : m.dst.isPrefixOf f.key = true
    · obtain ⟨r, hr⟩ := pre_split h
      rw [if_pos h] at e
      rw [backF_pre hr, hclone r hr]; exact readF_of hf e.symm
    · rw [if_neg h] at e
      rw [backF_not (bfalse h)]; exact readF_of hf e.symm
  split
  · have e := find_stamp (m.lo, m.hi) m.n ht f.key
    cases q : findS f.key t with
    | none =>
      rw [q, Option.map_none] at e
      rw [readF_none hf e]
      split
      · exact readF_none (f := { f with stamped := true, stamp := m.n }) hf q
      · exact readF_none hf q
    | some x =>
      rw [q, Option.map_some] at e
      have hx := ((find_some ht _ _).1 q).2
      rw [readF_some hf e]
      by_cases h : hasB (m.lo, m.hi) f.key = true
      · have es : stampP (m.lo, m.hi) m.n x = (x.1, x.2.1, m.n) := by unfold stampP; rw [hx, if_pos h]
        rw [h, es]
        cases hs : f.stamped with
        | true => simp only [Bool.not_true, Bool.false_and, Bool.false_eq_true, if_false]; rw [readF_some hf q]; simp [pairF, hs]
        | false => simp only [Bool.not_false, Bool.true_and, if_true]; rw [readF_some (f := { f with stamped := true, stamp := m.n }) hf q]; simp [pairF, hs]
      · have es : stampP (m.lo, m.hi) m.n x = x := by unfold stampP; rw [hx, if_neg h]
        rw [bfalse h, Bool.and_false, if_neg (by simp), es]; exact readF_some hf q
  · rfl
theorem allS_snoc (l : List Ms) (m : Ms) (t : List Pr) : allS (l ++ [m]) t = applyS m (allS l t) := by simp [allS]
theorem follow_read : ∀ (r : List Ms) {f : Fd}, f.known = false → (∀ m ∈ r, validM m = true) → ∀ {t : List Pr}, Srt t → readF (follow r f) t = readF f (allS r.reverse t)
  | [], f, _, _, t, _ => rfl
  | m :: r, f, hf, hv, t, ht => by
    rw [List.reverse_cons, allS_snoc, ← look_read m hf (srt_allS _ ht) (hv m (by simp)), follow]
    by_cases h : (lookK m f).known = true
    · rw [if_pos h]; exact readF_known h _ _
    · rw [if_neg h]; exact follow_read r (bfalse h) (fun x hx => hv x (by simp [hx])) ht
/-- Reading where a key comes from tells what the effect has. -/
theorem key_read (k : Bs) {l : List Ms} (hv : ∀ m ∈ l, validM m = true) {t : List Pr} (ht : Srt t) : readF (keyF k l) t = (optP (findS k (allS l t)), (findS k (allS l t)).isSome) := by
  unfold keyF
  rw [follow_read l.reverse rfl (fun m hm => hv m (by simpa using hm)) ht, List.reverse_reverse]
  have hs := srt_allS l ht
  cases q : findS k (allS l t) with
  | none => exact readF_none (f := startF k) rfl q
  | some x =>
    rw [readF_some (f := startF k) rfl q]
    have hx := ((find_some hs _ _).1 q).2
    obtain ⟨a, b, c⟩ := x
    simp only at hx; subst hx
    rfl

/-! ### Where keys come from -/
def srcK (m : Ms) (k : Bs) : Option Bs :=
  if m.kind = 1 then (if k == m.key then none else some k)
  else if m.kind = 2 then (if k == m.key then none else some k)
  else if m.kind = 3 then (if hasB (m.lo, m.hi) k then none else some k)
  else if m.kind = 4 then (if m.dst.isPrefixOf k then movedS k m.dst m.src else if m.src.isPrefixOf k then none else some k)
  else if m.kind = 5 then (if m.dst.isPrefixOf k then movedS k m.dst m.src else some k)
  else some k
def fromK : List Ms → Bs → Option Bs
  | [], k => some k
  | m :: r, k => (srcK m k).bind (fromK r)
theorem look_src (m : Ms) {f : Fd} (hf : f.known = false) (hh : f.has = false) : (srcK m f.key = none ∧ (lookK m f).known = true) ∨
    ∃ k, srcK m f.key = some k ∧ (lookK m f).known = false ∧ (lookK m f).has = false ∧ (lookK m f).key = k ∧ (lookK m f).pair = f.pair := by
  have hback : m.dst.isPrefixOf f.key = true → ∃ k, movedS f.key m.dst m.src = some k ∧ (backF m f).known = false ∧ (backF m f).has = false ∧ (backF m f).key = k ∧ (backF m f).pair = f.pair := fun h => by
    obtain ⟨r, hr⟩ := pre_split h
    rw [backF_pre hr]
    exact ⟨m.src ++ r, by rw [hr]; exact moved_app _ _ _, hf, hh, rfl, rfl⟩
  unfold srcK lookK endF
  split
  · by_cases h : (f.key == m.key) = true
    · rw [if_pos h, if_pos h]; exact .inl ⟨rfl, rfl⟩
    · rw [if_neg h, if_neg h]; exact .inr ⟨_, rfl, hf, hh, rfl, rfl⟩
  split
  · by_cases h : (f.key == m.key) = true
    · rw [if_pos h, if_pos h]; exact .inl ⟨rfl, rfl⟩
    · rw [if_neg h, if_neg h]; exact .inr ⟨_, rfl, hf, hh, rfl, rfl⟩
  split
  · by_cases h : hasB (m.lo, m.hi) f.key = true
    · rw [if_pos h, if_pos h]; exact .inl ⟨rfl, rfl⟩
    · rw [if_neg h, if_neg h]; exact .inr ⟨_, rfl, hf, hh, rfl, rfl⟩
  split
  · by_cases h : m.dst.isPrefixOf f.key = true
    · rw [if_pos h, if_pos h]; exact .inr (hback h)
    · rw [if_neg h, if_neg h]
      by_cases h2 : m.src.isPrefixOf f.key = true
      · rw [if_pos h2, if_pos h2]; exact .inl ⟨rfl, rfl⟩
      · rw [if_neg h2, if_neg h2]; exact .inr ⟨_, rfl, hf, hh, rfl, rfl⟩
  split
  · by_cases h : m.dst.isPrefixOf f.key = true
    · rw [if_pos h]; exact .inr (hback h)
    · rw [if_neg h, backF_not (bfalse h)]; exact .inr ⟨_, rfl, hf, hh, rfl, rfl⟩
  split
  · split <;> exact .inr ⟨_, rfl, hf, hh, rfl, rfl⟩
  · exact .inr ⟨_, rfl, hf, hh, rfl, rfl⟩
theorem follow_src : ∀ (r : List Ms) {f : Fd}, f.known = false → f.has = false → (fromK r f.key = none ∧ (follow r f).known = true) ∨
    ∃ k, fromK r f.key = some k ∧ (follow r f).known = false ∧ (follow r f).has = false ∧ (follow r f).key = k ∧ (follow r f).pair = f.pair
  | [], f, hf, hh => .inr ⟨_, rfl, hf, hh, rfl, rfl⟩
  | m :: r, f, hf, hh => by
    rw [follow, fromK]
    rcases look_src m hf hh with ⟨h1, h2⟩ | ⟨k, h1, h2, h3, h4, h5⟩
    · rw [if_pos h2, h1]; exact .inl ⟨rfl, h2⟩
    · rw [h2, if_neg (by simp), h1, Option.bind_some]
      rcases follow_src r h2 h3 with ⟨g1, g2⟩ | ⟨k', g1, g2, g3, g4, g5⟩
      · rw [h4] at g1; exact .inl ⟨g1, g2⟩
      · rw [h4] at g1; exact .inr ⟨k', g1, g2, g3, g4, g5.trans h5⟩
def comesK (l : List Ms) (k : Bs) : Option Bs := fromK l.reverse k
theorem key_known (l : List Ms) (k : Bs) : (keyF k l).known = true ↔ comesK l k = none := by
  rcases follow_src l.reverse (f := startF k) rfl rfl with ⟨h1, h2⟩ | ⟨k', h1, h2, h3, h4, h5⟩
  · exact ⟨fun _ => h1, fun _ => h2⟩
  · exact ⟨fun h => (Bool.false_ne_true (h2.symm.trans h)).elim, fun h => by have := h1.symm.trans h; cases this⟩
theorem key_from (l : List Ms) (k : Bs) (h : (keyF k l).known = false) : comesK l k = some (keyF k l).key ∧ (keyF k l).has = false ∧ (keyF k l).pair = (k, [], 0) := by
  rcases follow_src l.reverse (f := startF k) rfl rfl with ⟨h1, h2⟩ | ⟨k', h1, h2, h3, h4, h5⟩
  · exact (Bool.false_ne_true (h.symm.trans h2)).elim
  · exact ⟨h1.trans (by rw [← h4]; rfl), h3, h5⟩
theorem fromK_append : ∀ (r q : List Ms) (k : Bs), fromK (r ++ q) k = (fromK r k).bind (fromK q)
  | [], _, _ => rfl
  | m :: r, q, k => by rw [List.cons_append, fromK, fromK, Option.bind_assoc]; congr 1; funext k'; exact fromK_append r q k'
theorem comesK_append (a b : List Ms) (k : Bs) : comesK (a ++ b) k = (comesK b k).bind (comesK a) := by unfold comesK; rw [List.reverse_append, fromK_append]

/-! ### Spans -/
def partS (s x : Sp) : Option Sp := if emptyB (meetS x s) then none else some (meetS x s)
def inS (L : List Sp) (s : Sp) : List Sp := L.filterMap (partS s)
def movedSp (a b : Bs) (x : Sp) : Sp := ((movedS x.1 a b).getD [], (movedS x.2 a b).getD (preT b))
def moveB (m : Ms) (L : List Sp) : List Sp := normS (minusS L [preS m.dst] ++ (inS L (preS m.dst)).map (movedSp m.dst m.src))
def backS (m : Ms) (L : List Sp) : List Sp :=
  if m.kind = 1 then minusS L [oneS m.key]
  else if m.kind = 2 then minusS L [oneS m.key]
  else if m.kind = 3 then minusS L [(m.lo, m.hi)]
  else if m.kind = 4 then moveB m (minusS L [preS m.src])
  else if m.kind = 5 then moveB m L
  else L
def spansF (s : Sp) (l : List Ms) : List Sp := l.reverse.foldl (fun L m => backS m L) (normS [s])
theorem InL_one (s : Sp) (k : Bs) : InL [s] k ↔ HasS s k := by rw [InL_cons]; simp [InL_nil]
theorem in_has (L : List Sp) (s : Sp) (k : Bs) : InL (inS L s) k ↔ InL L k ∧ HasS s k := by
  unfold inS InL
  simp only [List.mem_filterMap]
  constructor
  · rintro ⟨x, ⟨y, hy, e⟩, hk⟩
    unfold partS at e
    split at e
    · cases e
    · cases e
      obtain ⟨h1, h2⟩ := (meet_has y s k).1 hk
      exact ⟨⟨y, hy, h1⟩, h2⟩
  · rintro ⟨⟨y, hy, h1⟩, h2⟩
    have hk := (meet_has y s k).2 ⟨h1, h2⟩
    exact ⟨meetS y s, ⟨y, hy, by unfold partS; rw [has_nonempty hk]; rfl⟩, hk⟩
theorem pre_has (p k : Bs) : HasS (preS p) k ↔ p.isPrefixOf k = true := by rw [← hasB_iff, has_pre]
theorem moved_span {a b : Bs} {x : Sp} (ha : a ≠ []) (hx : emptyB x = false) (hp : ∀ k, HasS x k → a.isPrefixOf k = true) (k : Bs) : HasS (movedSp a b x) k ↔ ∃ r, HasS x (a ++ r) ∧ k = b ++ r := by
  obtain ⟨lo, hi⟩ := x
  obtain ⟨r0, hr0⟩ := pre_split (hp lo (has_lo hx))
  subst hr0
  have hx' : keyP (a ++ r0) < hiP hi := (emptyB_no _).1 hx
  have sm : ∀ (p u v : Bs), (keyP (p ++ u) ≤ keyP (p ++ v)) ↔ keyP u ≤ keyP v := fun p u v => by
    show Op.bytesLess (p ++ v) (p ++ u) = false ↔ Op.bytesLess v u = false
    rw [less_same]
  have sl : ∀ (p u v : Bs), (keyP (p ++ u) < keyP (p ++ v)) ↔ keyP u < keyP v := fun p u v => by
    show Op.bytesLess (p ++ u) (p ++ v) = true ↔ Op.bytesLess u v = true
    rw [less_same]
  have below : ∀ (p u : Bs), keyP p ≤ keyP (p ++ u) := fun p u => ((pre_has p (p ++ u)).2 (prefix_app p u)).1
  have under : ∀ (p u : Bs), keyP (p ++ u) < hiP (preT p) := fun p u => ((pre_has p (p ++ u)).2 (prefix_app p u)).2
  have e1 : (movedS (a ++ r0) a b).getD [] = b ++ r0 := by rw [moved_app]; rfl
  unfold movedSp
  rw [e1]
  by_cases h : a.isPrefixOf hi = true
  · obtain ⟨u, rfl⟩ := pre_split h
    have hne : a ++ u ≠ [] := by cases a <;> simp_all
    rw [hiP_ne hne, sl] at hx'
    have hu : u ≠ [] := by
      rintro rfl
      have := keyP_nil r0
      grind
    rw [moved_app, Option.getD_some]
    have hne2 : b ++ u ≠ [] := by simp [hu]
    unfold HasS
    simp only [hiP_ne hne2, hiP_ne hne]
    constructor
    · rintro ⟨h1, h2⟩
      have hk : b.isPrefixOf k = true := (pre_has b k).1 ⟨by have := below b r0; show keyP b ≤ keyP k; grind, by have := under b u; show keyP k < hiP (preT b); grind⟩
      obtain ⟨r, rfl⟩ := pre_split hk
      rw [sm] at h1; rw [sl] at h2
      exact ⟨r, ⟨(sm _ _ _).2 h1, (sl _ _ _).2 h2⟩, rfl⟩
    · rintro ⟨r, ⟨h1, h2⟩, rfl⟩
      rw [sm] at h1; rw [sl] at h2
      exact ⟨(sm _ _ _).2 h1, (sl _ _ _).2 h2⟩
  · have e2 : (movedS hi a b).getD (preT b) = preT b := by unfold movedS; rw [if_neg h]; rfl
    rw [e2]
    have above : ∀ r, keyP (a ++ r) < hiP hi := by
      intro r
      by_cases hh : hi = []
      · rw [hh, hiP_nil]; exact keyP_top _
      · rw [hiP_ne hh] at hx' ⊢
        have h1 : ¬ (keyP a ≤ keyP hi ∧ keyP hi < hiP (preT a)) := fun q => h ((pre_has a hi).1 q)
        have h2 := below a r0
        have h3 := under a r
        grind
    unfold HasS
    simp only
    constructor
    · rintro ⟨h1, h2⟩
      have hk : b.isPrefixOf k = true := (pre_has b k).1 ⟨by have := below b r0; show keyP b ≤ keyP k; grind, h2⟩
      obtain ⟨r, rfl⟩ := pre_split hk
      rw [sm] at h1
      exact ⟨r, ⟨(sm _ _ _).2 h1, above r⟩, rfl⟩
    · rintro ⟨r, ⟨h1, h2⟩, rfl⟩
      rw [sm] at h1
      exact ⟨(sm _ _ _).2 h1, under b r⟩
theorem moves_in {a b : Bs} (ha : a ≠ []) (L : List Sp) (k : Bs) : InL ((inS L (preS a)).map (movedSp a b)) k ↔ ∃ r, InL L (a ++ r) ∧ k = b ++ r := by
  have hE : ∀ x ∈ inS L (preS a), emptyB x = false ∧ ∀ k, HasS x k → a.isPrefixOf k = true := by
    intro x hx
    unfold inS at hx
    rw [List.mem_filterMap] at hx
    obtain ⟨y, hy, e⟩ := hx
    unfold partS at e
    split at e
    · cases e
    · rename_i hne
      cases e
      exact ⟨by simpa using hne, fun k hk => (pre_has a k).1 ((meet_has _ _ _).1 hk).2⟩
  constructor
  · rintro ⟨z, hz, hk⟩
    rw [List.mem_map] at hz
    obtain ⟨x, hx, rfl⟩ := hz
    obtain ⟨h1, h2⟩ := hE x hx
    obtain ⟨r, h3, h4⟩ := (moved_span ha h1 h2 k).1 hk
    exact ⟨r, ((in_has L (preS a) _).1 ⟨x, hx, h3⟩).1, h4⟩
  · rintro ⟨r, h1, rfl⟩
    obtain ⟨x, hx, h2⟩ := (in_has L (preS a) (a ++ r)).2 ⟨h1, (pre_has _ _).2 (prefix_app a r)⟩
    obtain ⟨h3, h4⟩ := hE x hx
    exact ⟨movedSp a b x, List.mem_map.2 ⟨x, hx, rfl⟩, (moved_span ha h3 h4 _).2 ⟨r, h2, rfl⟩⟩
theorem move_in (m : Ms) (hd : m.dst ≠ []) (L : List Sp) (k : Bs) : InL (moveB m L) k ↔ (InL L k ∧ m.dst.isPrefixOf k = false) ∨ ∃ r, InL L (m.dst ++ r) ∧ k = m.src ++ r := by
  unfold moveB
  rw [norm_in, InL_append, minus_in, moves_in hd, InL_one, pre_has, Bool.not_eq_true]
theorem valid_apart {m : Ms} (hv : validM m = true) (hk : m.kind = 4 ∨ m.kind = 5) : m.src ≠ [] ∧ m.dst ≠ [] ∧ m.dst.isPrefixOf m.src = false ∧ m.src.isPrefixOf m.dst = false := by
  have h : apartB m.src m.dst = true := by
    unfold validM fitsB at hv
    rw [Bool.and_eq_true] at hv
    have := hv.1
    rcases hk with hk | hk
    · rwa [if_neg (by omega), if_neg (by omega), if_neg (by omega), if_pos (by omega)] at this
    · rwa [if_neg (by omega), if_neg (by omega), if_neg (by omega), if_neg (by omega), if_pos (by omega)] at this
  unfold apartB frontB at h
  simp only [Bool.and_eq_true, decide_eq_true_eq, Bool.not_eq_true'] at h
  obtain ⟨h1, h2, h3, h4⟩ := h
  exact ⟨by rintro e; rw [e] at h1; simp at h1, by rintro e; rw [e] at h2; simp at h2, h3, h4⟩
theorem back_nrm (m : Ms) {L : List Sp} (h : Nrm L) : Nrm (backS m L) := by
  unfold backS
  split; · exact minus_nrm _ _
  split; · exact minus_nrm _ _
  split; · exact minus_nrm _ _
  split; · exact norm_nrm _
  split; · exact norm_nrm _
  exact h
theorem one_hasS (a k : Bs) : HasS (oneS a) k ↔ k = a := by rw [← hasB_iff, has_one]; simp
/-- The spans below have the keys from which those above come. -/
theorem back_in {m : Ms} (hv : validM m = true) (L : List Sp) (k : Bs) : InL (backS m L) k ↔ ∃ j, InL L j ∧ srcK m j = some k := by
  have hmove : ∀ {L : List Sp}, m.dst ≠ [] → (InL (moveB m L) k ↔ ∃ j, InL L j ∧ (if m.dst.isPrefixOf j then movedS j m.dst m.src else some j) = some k) := by
    intro L hd
    rw [move_in m hd]
    constructor
    · rintro (⟨h1, h2⟩ | ⟨r, h1, rfl⟩)
      · exact ⟨k, h1, by rw [h2]; rfl⟩
      · exact ⟨m.dst ++ r, h1, by rw [prefix_app, if_pos rfl, moved_app]⟩
    · rintro ⟨j, h1, h2⟩
      by_cases h : m.dst.isPrefixOf j = true
      · rw [if_pos h] at h2
        obtain ⟨r, rfl⟩ := pre_split h
        rw [moved_app] at h2
        exact .inr ⟨r, h1, (Option.some.inj h2).symm⟩
      · rw [if_neg h] at h2
        cases h2
        exact .inl ⟨h1, bfalse h⟩
  unfold backS srcK
  have hcut : ∀ (s : Sp) (p : Bs → Bool), (∀ j, HasS s j ↔ p j = true) → (InL (minusS L [s]) k ↔ ∃ j, InL L j ∧ (if p j then none else some j) = some k) := by
    intro s p hs
    rw [minus_in, InL_one]
    constructor
    · rintro ⟨h1, h2⟩
      exact ⟨k, h1, if_neg fun h => h2 ((hs k).2 h)⟩
    · rintro ⟨j, h1, h2⟩
      split at h2
      · cases h2
      · rename_i hp
        cases h2
        exact ⟨h1, fun h => hp ((hs k).1 h)⟩
  split
  · exact hcut (oneS m.key) (fun j => j == m.key) fun j => by rw [one_hasS]; simp
  split
  · exact hcut (oneS m.key) (fun j => j == m.key) fun j => by rw [one_hasS]; simp
  split
  · exact hcut (m.lo, m.hi) (fun j => hasB (m.lo, m.hi) j) fun j => (hasB_iff _ _).symm
  split
  · rename_i hk
    obtain ⟨a1, a2, a3, a4⟩ := valid_apart hv (.inl hk)
    rw [hmove a2]
    constructor
    · rintro ⟨j, h1, h2⟩
      rw [minus_in, InL_one, pre_has] at h1
      refine ⟨j, h1.1, ?_⟩
      rw [if_neg h1.2]; exact h2
    · rintro ⟨j, h1, h2⟩
      refine ⟨j, ?_, ?_⟩
      · rw [minus_in, InL_one, pre_has]
        refine ⟨h1, fun hj => ?_⟩
        by_cases hd : m.dst.isPrefixOf j = true
        · obtain ⟨r, rfl⟩ := pre_split hd
          rw [apart_pre a3 a4] at hj; cases hj
        · rw [if_neg hd, if_pos hj] at h2; cases h2
      · by_cases hd : m.dst.isPrefixOf j = true
        · rw [if_pos hd] at h2 ⊢; exact h2
        · rw [if_neg hd] at h2 ⊢
          split at h2
          · cases h2
          · exact h2
  split
  · rename_i hk
    exact hmove (valid_apart hv (.inr hk)).2.1
  · exact ⟨fun h => ⟨k, h, rfl⟩, fun ⟨j, h1, h2⟩ => by cases h2; exact h1⟩
theorem spans_back : ∀ (r : List Ms), (∀ m ∈ r, validM m = true) → ∀ {L : List Sp}, Nrm L → Nrm (r.foldl (fun L m => backS m L) L) ∧ ∀ k, InL (r.foldl (fun L m => backS m L) L) k ↔ ∃ j, InL L j ∧ fromK r j = some k
  | [], _, L, h => ⟨h, fun k => ⟨fun hk => ⟨k, hk, rfl⟩, fun ⟨j, h1, h2⟩ => by cases h2; exact h1⟩⟩
  | m :: r, hv, L, h => by
    obtain ⟨h1, h2⟩ := spans_back r (fun x hx => hv x (by simp [hx])) (back_nrm m h)
    refine ⟨h1, fun k => ?_⟩
    rw [List.foldl_cons, h2]
    constructor
    · rintro ⟨j, h3, h4⟩
      obtain ⟨i, h5, h6⟩ := (back_in (hv m (by simp)) L j).1 h3
      exact ⟨i, h5, by rw [fromK, h6]; exact h4⟩
    · rintro ⟨i, h5, h6⟩
      rw [fromK] at h6
      cases q : srcK m i with
      | none => rw [q] at h6; cases h6
      | some j =>
        rw [q] at h6
        exact ⟨j, (back_in (hv m (by simp)) L j).2 ⟨i, h5, q⟩, h6⟩
theorem spans_nrm (s : Sp) {l : List Ms} (hv : ∀ m ∈ l, validM m = true) : Nrm (spansF s l) := (spans_back l.reverse (fun m hm => hv m (by simpa using hm)) (norm_nrm [s])).1
theorem spans_in (s : Sp) {l : List Ms} (hv : ∀ m ∈ l, validM m = true) (k : Bs) : InL (spansF s l) k ↔ ∃ j, HasS s j ∧ comesK l j = some k := by
  unfold spansF
  rw [(spans_back l.reverse (fun m hm => hv m (by simpa using hm)) (norm_nrm [s])).2]
  simp only [norm_in, InL_one]; rfl

/-! ### Lengths -/
theorem len_sub : ∀ {a b : List Bs}, a.Nodup → (∀ x ∈ a, x ∈ b) → a.length ≤ b.length
  | [], _, _, _ => Nat.zero_le _
  | x :: a, b, hn, h => by
    obtain ⟨h1, h2⟩ := List.nodup_cons.1 hn
    have hx := h x (by simp)
    have h3 := len_sub (b := b.erase x) h2 fun y hy => (List.mem_erase_of_ne (by rintro rfl; exact h1 hy)).2 (h y (by simp [hy]))
    rw [List.length_erase_of_mem hx] at h3
    have := List.length_pos_of_mem hx
    simp only [List.length_cons]; omega
theorem nrm_pw {l : List Sp} (h : Nrm l) : l.Pairwise (fun x y => hiP x.2 < keyP y.1) := by
  induction l with
  | nil => exact .nil
  | cons a r ih => exact .cons h.2.1 (ih h.2.2)
theorem nrm_starts {l : List Sp} (h : Nrm l) : (l.map (·.1)).Nodup := by
  unfold List.Nodup
  rw [List.pairwise_map]
  have : l.Pairwise (fun x y => hiP x.2 < keyP y.1 ∧ emptyB x = false) := by
    induction l with
    | nil => exact .nil
    | cons a r ih => exact .cons (fun y hy => ⟨h.2.1 y hy, h.1⟩) (ih h.2.2)
  refine this.imp fun ⟨h1, h2⟩ e => ?_
  have := (emptyB_no _).1 h2
  rw [e] at this
  grind
theorem last_high (L : List Sp) (q : Pt) (k : Bs) (hk : keyP k < q) (h : ∀ y ∈ L, hiP y.2 < q) : ∃ k0, keyP k ≤ keyP k0 ∧ keyP k0 < q ∧ ∀ y ∈ L, hiP y.2 ≤ keyP k0 := by
  induction L with
  | nil => exact ⟨k, by grind, hk, by simp⟩
  | cons a r ih =>
    obtain ⟨k0, h1, h2, h3⟩ := ih fun y hy => h y (by simp [hy])
    have ha := h a (by simp)
    by_cases hc : hiP a.2 ≤ keyP k0
    · exact ⟨k0, h1, h2, fun y hy => by rcases List.mem_cons.1 hy with rfl | hy; exact hc; exact h3 y hy⟩
    · have hne : a.2 ≠ [] := by rintro e; rw [e, hiP_nil] at ha; exact top_max _ ha
      rw [hiP_ne hne] at ha hc
      refine ⟨a.2, by grind, ha, fun y hy => ?_⟩
      rcases List.mem_cons.1 hy with rfl | hy
      · rw [hiP_ne hne]; grind
      · have := h3 y hy; grind
/-- Left of where a span of a normal list begins there are keys that the list has not. -/
theorem left_border {N : List Sp} (h : Nrm N) {x : Sp} (hx : x ∈ N) {k0 : Bs} (hk : keyP k0 < keyP x.1) : ∃ k1, keyP k0 ≤ keyP k1 ∧ keyP k1 < keyP x.1 ∧ ¬ InL N k1 := by
  obtain ⟨A, C, rfl⟩ := List.append_of_mem hx
  obtain ⟨p1, p2, p3⟩ := List.pairwise_append.1 (nrm_pw h)
  obtain ⟨p4, p5⟩ := List.pairwise_cons.1 p2
  obtain ⟨k1, h1, h2, h3⟩ := last_high A (keyP x.1) k0 hk fun y hy => p3 y hy x (by simp)
  refine ⟨k1, h1, h2, ?_⟩
  rintro ⟨y, hy, h4, h5⟩
  have hxe := (emptyB_no _).1 (h.ne x (by simp))
  rcases List.mem_append.1 hy with hy | hy
  · have := h3 y hy; grind
  · rcases List.mem_cons.1 hy with rfl | hy
    · grind
    · have := p4 y hy; grind
theorem minus_starts {L : List Sp} (s : Sp) {x : Sp} (hx : x ∈ minusS L [s]) : (x.1 ∈ (L.filter fun y => !hasB s y.1).map (·.1)) ∨ x.1 = s.2 := by
  have hn := minus_nrm L [s]
  have hi := (minus_in L [s] x.1).1 ⟨x, hx, has_lo (hn.ne x hx)⟩
  rw [InL_one] at hi
  obtain ⟨⟨y, hy, y1, y2⟩, hs⟩ := hi
  by_cases e : y.1 = x.1
  · refine .inl (List.mem_map.2 ⟨y, List.mem_filter.2 ⟨hy, ?_⟩, e⟩)
    rw [e]
    simp only [Bool.not_eq_true', Bool.eq_false_iff, ne_eq, hasB_iff]
    exact hs
  · by_cases e2 : hiP s.2 = keyP x.1
    · refine .inr ?_
      by_cases hh : s.2 = []
      · rw [hh, hiP_nil] at e2; cases e2
      · rw [hiP_ne hh] at e2; exact (keyP_inj e2).symm
    · exfalso
      have y3 : keyP y.1 < keyP x.1 := by
        have : keyP y.1 ≠ keyP x.1 := fun q => e (keyP_inj q)
        grind
      have hno : ∀ k, keyP y.1 ≤ keyP k → keyP k < keyP x.1 → (keyP x.1 < keyP s.1 ∨ hiP s.2 ≤ keyP k) → InL (minusS L [s]) k := fun k h1 h2 h3 => by
        rw [minus_in, InL_one]
        refine ⟨⟨y, hy, h1, by grind⟩, fun ⟨h4, h5⟩ => ?_⟩
        grind
      by_cases hc : keyP x.1 < keyP s.1
      · obtain ⟨k1, h1, h2, h3⟩ := left_border hn hx y3
        exact h3 (hno k1 h1 h2 (.inl hc))
      · have hlt : hiP s.2 < keyP x.1 := by
          have : ¬ (keyP s.1 ≤ keyP x.1 ∧ keyP x.1 < hiP s.2) := hs
          grind
        have hh : s.2 ≠ [] := by rintro q; rw [q, hiP_nil] at hlt; exact top_max _ hlt
        rw [hiP_ne hh] at hlt
        by_cases hm : keyP y.1 ≤ keyP s.2
        · obtain ⟨k1, h1, h2, h3⟩ := left_border hn hx hlt
          exact h3 (hno k1 (by grind) h2 (.inr (by rw [hiP_ne hh]; exact h1)))
        · obtain ⟨k1, h1, h2, h3⟩ := left_border hn hx y3
          exact h3 (hno k1 h1 h2 (.inr (by rw [hiP_ne hh]; grind)))
theorem minus_len (L : List Sp) (s : Sp) : (minusS L [s]).length ≤ (L.filter fun y => !hasB s y.1).length + 1 := by
  have h := len_sub (nrm_starts (minus_nrm L [s])) (b := s.2 :: (L.filter fun y => !hasB s y.1).map (·.1)) fun k hk => by
    obtain ⟨x, hx, rfl⟩ := List.mem_map.1 hk
    rcases minus_starts s hx with h | h
    · exact List.mem_cons_of_mem _ h
    · rw [h]; exact List.mem_cons_self
  simpa using h
theorem meet_lo {x s : Sp} (h : emptyB (meetS x s) = false) : (meetS x s).1 = if ltP (keyP x.1) (keyP s.1) then s.1 else x.1 := by
  unfold meetS at h ⊢
  dsimp only at h ⊢
  generalize (if ltP (keyP x.1) (keyP s.1) = true then s.1 else x.1) = lo at *
  generalize (if ltP (hiP s.2) (hiP x.2) = true then s.2 else x.2) = hi at *
  by_cases he : emptyB (lo, hi) = true
  · rw [if_pos he, noneS_empty] at h; cases h
  · rw [if_neg he]
theorem in_len {L : List Sp} (hL : Nrm L) (s : Sp) : (inS L s).length ≤ (L.filter fun y => hasB s y.1).length + 1 := by
  have hnd : ((inS L s).map (·.1)).Nodup := by
    unfold inS List.Nodup
    rw [List.pairwise_map, List.pairwise_filterMap]
    refine (nrm_pw hL).imp fun {x y} hxy a ha b hb e => ?_
    unfold partS at ha hb
    split at ha
    · cases ha
    split at hb
    · cases hb
    rename_i h1 h2
    cases ha; cases hb
    have g1 := ((meet_has x s _).1 (has_lo (by simpa using h1))).1
    have g2 := ((meet_has y s _).1 (has_lo (by simpa using h2))).1
    rw [e] at g1
    obtain ⟨a1, a2⟩ := g1
    obtain ⟨b1, b2⟩ := g2
    grind
  have h := len_sub hnd (b := s.1 :: (L.filter fun y => hasB s y.1).map (·.1)) fun k hk => by
    obtain ⟨z, hz, rfl⟩ := List.mem_map.1 hk
    unfold inS at hz
    obtain ⟨x, hx, e⟩ := List.mem_filterMap.1 hz
    unfold partS at e
    split at e
    · cases e
    · rename_i hne
      cases e
      have hne : emptyB (meetS x s) = false := by simpa using hne
      have hlo := ((meet_has x s _).1 (has_lo hne)).2
      rw [meet_lo hne] at hlo ⊢
      split
      · exact List.mem_cons_self
      · rename_i hlt
        rw [if_neg hlt] at hlo
        exact List.mem_cons_of_mem _ (List.mem_map.2 ⟨x, List.mem_filter.2 ⟨hx, (hasB_iff _ _).2 hlo⟩, rfl⟩)
  simpa using h
theorem filter_two {α : Type} (p : α → Bool) (l : List α) : (l.filter fun x => !p x).length + (l.filter p).length = l.length := by
  induction l with
  | nil => rfl
  | cons a l ih => simp only [List.filter_cons]; cases p a <;> simp <;> omega
theorem moveB_len (m : Ms) {L : List Sp} (hL : Nrm L) : (moveB m L).length ≤ L.length + 2 := by
  unfold moveB
  have h1 := norm_length (minusS L [preS m.dst] ++ (inS L (preS m.dst)).map (movedSp m.dst m.src))
  have h2 := minus_len L (preS m.dst)
  have h3 := in_len hL (preS m.dst)
  have h4 := filter_two (fun y : Sp => hasB (preS m.dst) y.1) L
  rw [List.length_append, List.length_map] at h1
  omega
theorem back_len (m : Ms) {L : List Sp} (hL : Nrm L) : (backS m L).length ≤ L.length + 3 := by
  have h1 : ∀ s, (minusS L [s]).length ≤ L.length + 1 := fun s => minus_length L [s]
  unfold backS
  split; · have := h1 (oneS m.key); omega
  split; · have := h1 (oneS m.key); omega
  split; · have := h1 (m.lo, m.hi); omega
  split; · have := h1 (preS m.src); have := moveB_len m (minus_nrm L [preS m.src]); omega
  split; · have := moveB_len m hL; omega
  omega
theorem spans_len_of : ∀ (r : List Ms) {L : List Sp}, Nrm L → (r.foldl (fun L m => backS m L) L).length ≤ L.length + 3 * r.length
  | [], L, _ => by simp
  | m :: r, L, h => by
    have h1 := spans_len_of r (back_nrm m h)
    have h2 := back_len m h
    simp only [List.foldl_cons, List.length_cons]; omega
theorem spans_len (s : Sp) (l : List Ms) : (spansF s l).length ≤ 1 + 3 * l.length := by
  have h1 := spans_len_of l.reverse (norm_nrm [s])
  have h2 := norm_length [s]
  unfold spansF
  simp only [List.length_reverse, List.length_cons, List.length_nil] at h1 h2
  omega

end Go.Proofs.YthncnijkgkeohaaGreat
