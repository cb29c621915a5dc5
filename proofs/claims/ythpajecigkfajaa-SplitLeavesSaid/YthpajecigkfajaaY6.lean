/-
  Walks: the lists of the reader of nodes. Walks: nodes are read; Parse. Walks: Parse of package node.
-/
import Derived.Test.YthpajecigkfajaaY5
import Derived.Test.YthpajecigkfajaaNQJ
import Derived.Test.YthpajecigkfajaaRBA
namespace Go.Proofs.Ythpajecigkfajaa
open Go.RowKit Go.Sort
set_option linter.unusedVariables false

def encI (x : Int) : List Value := [.int .i64 x]
def encT (x : Bs) : List Value := [.string (Str x)]
def encSm (s : Sm) : List Value := [.int .i64 s.1.1, .int .i64 s.1.2, .int .i64 s.2.1, .int .i64 s.2.2]
theorem infoI : (Try.prog.info? 3).map (fun i => (i.zero, i.size, i.bytes)) = some (some (.int .i64 0), 1, 8) := by kernel_rfl
theorem infoSm : (Try.prog.info? 72).map (fun i => (i.zero, i.size, i.bytes)) = some (some (.agg #[.int .i64 0, .int .i64 0, .int .i64 0, .int .i64 0]), 4, 32) := by kernel_rfl
def itV (x : Int) : Value := .int .i64 x
def stV (x : Bs) : Value := .string (Str x)
theorem But.ext {b : Nat} {x y z : World} (h : But b x y) (k : Below x.heap.size y z) : But b x z :=
  ⟨k.os.trans h.os, k.tape.trans h.tape, k.output.trans h.output, Nat.le_trans h.size k.size, fun i hi hb => (k.block i hi).trans (h.block i hi hb)⟩
theorem own_but {w w' : World} {rb B size m : Nat} {T : TypeId} {v : Value} {xs : List Value} (h : w.ownsRow B T size v m xs) (hb : But rb w w') (hB : rb < B) : w'.ownsRow B T size v m xs := by
  refine ⟨h.1, ?_⟩
  rcases h.2 with h | ⟨g, cp, cur, h2, h3, h4, h5⟩
  · exact .inl h
  · exact .inr ⟨g, cp, cur, h2, h3, hb.blk (T := T) h4 (by omega), h5⟩
theorem own_alloc {w : World} {B size m : Nat} {T : TypeId} {v : Value} {xs : List Value} (h : w.ownsRow B T size v m xs) (o : Obj) : (w.alloc o).ownsRow B T size v m xs := h.alloc o
end Go.Proofs.Ythpajecigkfajaa
namespace Go.Proofs.Ythpajecigkfajaa
open Go.RowKit Go.Sort
set_option linter.unusedVariables false

theorem flatI_len (l : List Int) : (l.flatMap encI).length = l.length := by
  induction l with
  | nil => rfl
  | cons x l ih => rw [List.flatMap_cons, List.length_append, ih, List.length_cons]; simp [encI]; omega
theorem IsInts.owned {w : World} {base : Nat} {v : Value} {n : Nat} {l : List Int} (h : w.ownsRow base 3 1 v n (l.flatMap encI)) : IsInts w v l := by
  have hfl := flatI_len l
  have hgt : ∀ i (hi : i < l.length), (l.flatMap encI)[i]? = some (.int .i64 l[i]) := by
    clear hfl h
    induction l with
    | nil => intro i hi; simp at hi
    | cons x l ih =>
      intro i hi
      cases i with
      | zero => rfl
      | succ i => exact ih i (by simpa using hi)
  have hlen := h.1
  rw [hfl] at hlen
  obtain rfl : n = l.length := by omega
  rcases h.2 with ⟨rfl, h0⟩ | ⟨g, cap, cur, rfl, hb, hg, hn, hm, hsz, htk⟩
  · have : l = [] := List.length_eq_zero_iff.1 h0
    subst this
    exact ⟨none, 0, rfl, Nat.le_refl _, by unfold maxLen; omega, fun h => absurd rfl h⟩
  · refine ⟨_, cap, rfl, hn, hm, fun hne => ⟨g, 0, rfl, (Array.getElem?_eq_some_iff.1 hg).1, fun i hi => ?_⟩⟩
    unfold World.cell?
    rw [hg]
    show cur[0 + i]? = _
    have h1 : (cur.toList.take (l.length * 1))[i]? = some (.int .i64 l[i]) := by rw [htk]; exact hgt i hi
    rw [List.getElem?_take] at h1
    split at h1
    · rw [Array.getElem?_toList] at h1; rw [Nat.zero_add]; exact h1
    · cases h1
theorem flatSm_get (l : List Sm) (i : Nat) (h : i < l.length) : (l.flatMap encSm)[i * 4]? = some (.int .i64 l[i].1.1) ∧ (l.flatMap encSm)[i * 4 + 1]? = some (.int .i64 l[i].1.2) ∧ (l.flatMap encSm)[i * 4 + 2]? = some (.int .i64 l[i].2.1) ∧ (l.flatMap encSm)[i * 4 + 3]? = some (.int .i64 l[i].2.2) := by
  induction l generalizing i with
  | nil => simp at h
  | cons s l ih =>
    have e : (s :: l).flatMap encSm = .int .i64 s.1.1 :: .int .i64 s.1.2 :: .int .i64 s.2.1 :: .int .i64 s.2.2 :: l.flatMap encSm := rfl
    rw [e]
    cases i with
    | zero => exact ⟨rfl, rfl, rfl, rfl⟩
    | succ i =>
      have := ih i (by simpa using h)
      rw [show (i + 1) * 4 = i * 4 + 4 by omega]
      exact this
theorem flatSm_len (l : List Sm) : (l.flatMap encSm).length = l.length * 4 := by
  induction l with
  | nil => rfl
  | cons s l ih =>
    have e : (s :: l).flatMap encSm = .int .i64 s.1.1 :: .int .i64 s.1.2 :: .int .i64 s.2.1 :: .int .i64 s.2.2 :: l.flatMap encSm := rfl
    rw [e]; simp [ih]; omega
theorem IsSums.owned {w : World} {base : Nat} {v : Value} {n : Nat} {l : List Sm} (h : w.ownsRow base 72 4 v n (l.flatMap encSm)) : IsSums w v l := by
  have hlen := h.1
  rw [flatSm_len] at hlen
  obtain rfl : n = l.length := by omega
  rcases h.2 with ⟨rfl, h0⟩ | ⟨g, cap, cur, rfl, hb, hg, hn, hm, hsz, htk⟩
  · have : l = [] := List.length_eq_zero_iff.1 h0
    subst this
    exact ⟨none, 0, rfl, Nat.le_refl _, by unfold maxLen; omega, fun h => absurd rfl h⟩
  · refine ⟨_, cap, rfl, hn, hm, fun hne => ⟨g, 0, rfl, (Array.getElem?_eq_some_iff.1 hg).1, fun i hi => ?_⟩⟩
    have hc : ∀ j u, (l.flatMap encSm)[j]? = some u → w.cell? ⟨g, 0 + j, none⟩ = some u := by
      intro j u hj
      unfold World.cell?
      rw [hg]
      show cur[0 + j]? = _
      have h1 : (cur.toList.take (l.length * 4))[j]? = some u := by rw [htk]; exact hj
      rw [List.getElem?_take] at h1
      split at h1
      · rw [Array.getElem?_toList] at h1; rw [Nat.zero_add]; exact h1
      · cases h1
    have g3 := flatSm_get l i hi
    refine ⟨hc _ _ g3.1, ?_, ?_, ?_⟩
    · rw [Nat.add_assoc]; exact hc _ _ g3.2.1
    · rw [Nat.add_assoc]; exact hc _ _ g3.2.2.1
    · rw [Nat.add_assoc]; exact hc _ _ g3.2.2.2

theorem listP_texts (k : Nat) (s : RS) : ∀ x ∈ (listP textP k [] s).1, x.length ≤ maxLen := listP_mem (p := fun x : Bs => x.length ≤ maxLen) (fun s => by have := textP_short s; unfold maxLen; omega) k [] s (fun x hx => by cases hx)
theorem listP_pairs (k : Nat) (s : RS) : ∀ x ∈ (listP pairR k [] s).1, x.1.length ≤ maxLen ∧ x.2.1.length ≤ maxLen := listP_mem (p := fun x : Pr => x.1.length ≤ maxLen ∧ x.2.1.length ≤ maxLen) (fun s => by
  have h1 := textP_short s
  have h2 := textP_short (textP s).2
  unfold pairR maxLen; simp only; omega) k [] s (fun x hx => by cases hx)

theorem flatT_map (l : List Bs) : l.flatMap encT = l.map fun s => Value.string (Str s) := by
  induction l with
  | nil => rfl
  | cons x l ih => rw [List.flatMap_cons, ih]; rfl
theorem IsStrs.ownedT {w : World} {base : Nat} {v : Value} {n : Nat} {l : List Bs} (h : w.ownsRow base 9 1 v n (l.flatMap encT)) : IsStrs w v l := by
  rw [flatT_map] at h; exact IsStrs.owned h
theorem IsMsgs.ownedM {w : World} {base : Nat} {v : Value} {l : List Ms} (h : w.ownsRow base 59 8 v l.length (l.flatMap encML)) : IsMsgs w v l := OwnM.msgs (B := base) h
theorem nil_pairs (w : World) : IsPairs w (.slice none 0 0) [] := ⟨none, 0, rfl, Nat.le_refl _, by unfold maxLen; omega, fun x hx => (by cases hx), fun h => absurd rfl h⟩
theorem nil_strs (w : World) : IsStrs w (.slice none 0 0) [] := ⟨none, 0, rfl, Nat.le_refl _, by unfold maxLen; omega, fun h => absurd rfl h⟩
theorem nil_ints (w : World) : IsInts w (.slice none 0 0) [] := ⟨none, 0, rfl, Nat.le_refl _, by unfold maxLen; omega, fun h => absurd rfl h⟩
theorem nil_sums (w : World) : IsSums w (.slice none 0 0) [] := ⟨none, 0, rfl, Nat.le_refl _, by unfold maxLen; omega, fun h => absurd rfl h⟩
theorem nil_msgs (w : World) : IsMsgs w (.slice none 0 0) [] := ⟨none, 0, rfl, Nat.le_refl _, by unfold maxLen; omega, fun h => absurd rfl h⟩
theorem nil_node (w : World) : IsNode w (.agg #[.slice none 0 0, .slice none 0 0, .slice none 0 0, .slice none 0 0, .slice none 0 0]) noNd := ⟨_, _, _, _, _, rfl, nil_pairs w, nil_strs w, nil_ints w, nil_sums w, nil_msgs w⟩
/-- What lies in a row of its own stays when the reader goes on. -/
theorem IsInts.but {w w' : World} {rb B : Nat} {v : Value} {l : List Int} (h : w.ownsRow B 3 1 v l.length (l.flatMap encI)) (hb : But rb w w') (hB : rb < B) : w'.ownsRow B 3 1 v l.length (l.flatMap encI) := own_but h hb hB
theorem five_ok {w : World} {b : Nat} {T : TypeId} {x0 x1 x2 x3 x4 : Value} (h : Blk w b T #[x0, x1, x2, x3, x4]) :
    w.cell? ⟨b, 0, none⟩ = some x0 ∧ w.cell? ⟨b, 1, none⟩ = some x1 ∧ w.cell? ⟨b, 2, none⟩ = some x2 ∧ w.cell? ⟨b, 3, none⟩ = some x3 ∧ w.cell? ⟨b, 4, none⟩ = some x4 ∧
    w.frozen? ⟨b, 0, none⟩ = false ∧ w.frozen? ⟨b, 1, none⟩ = false ∧ w.frozen? ⟨b, 2, none⟩ = false ∧ w.frozen? ⟨b, 3, none⟩ = false ∧ w.frozen? ⟨b, 4, none⟩ = false :=
  ⟨h.c0 0 _ rfl, h.c0 1 _ rfl, h.c0 2 _ rfl, h.c0 3 _ rfl, h.c0 4 _ rfl, h.free 0, h.free 1, h.free 2, h.free 3, h.free 4⟩
@[reducible] def st5 (w : World) (b : Nat) (y0 y1 y2 y3 y4 : Value) : World := ((((w.setCell ⟨b, 0, none⟩ y0).setCell ⟨b, 1, none⟩ y1).setCell ⟨b, 2, none⟩ y2).setCell ⟨b, 3, none⟩ y3).setCell ⟨b, 4, none⟩ y4
theorem But.st5 {b c : Nat} {x y : World} {y0 y1 y2 y3 y4 : Value} (h : But b x y) (hc : x.heap.size ≤ c) : But b x (st5 y c y0 y1 y2 y3 y4) := ((((h.put hc).put hc).put hc).put hc).put hc
/-- A row apart from a block that is stored into. -/
theorem own_put {w : World} {B size m c i : Nat} {T T2 : TypeId} {v x : Value} {xs : List Value} {cs : Array Value} (h : w.ownsRow B T size v m xs) (hc : Blk w c T2 cs) (hT : T ≠ T2) : (w.setCell ⟨c, i, none⟩ x).ownsRow B T size v m xs := by
  refine ⟨h.1, ?_⟩
  rcases h.2 with h | ⟨g, cp, cur, h2, h3, h4, h5⟩
  · exact .inl h
  · have hne : g ≠ c := by
      rintro rfl
      unfold Blk at hc
      rw [h4] at hc
      injection hc with hc
      injection hc with _ ht
      exact hT ht
    exact .inr ⟨g, cp, cur, h2, h3, by rw [Below.heap_setCell _ _ _ _ hne]; exact h4, h5⟩
theorem own_st5 {w : World} {B size m c : Nat} {T T2 : TypeId} {v y0 y1 y2 y3 y4 x0 x1 x2 x3 x4 : Value} {xs : List Value} (h : w.ownsRow B T size v m xs) (hc : Blk w c T2 #[x0, x1, x2, x3, x4]) (hT : T ≠ T2) : (st5 w c y0 y1 y2 y3 y4).ownsRow B T size v m xs := by
  have h0 := own_put (i := 0) (x := y0) h hc hT
  have b0 := hc.setCell 0 y0
  have h1 := own_put (i := 1) (x := y1) h0 b0 hT
  have b1 := b0.setCell 1 y1
  have h2 := own_put (i := 2) (x := y2) h1 b1 hT
  have b2 := b1.setCell 2 y2
  have h3 := own_put (i := 3) (x := y3) h2 b2 hT
  have b3 := b2.setCell 3 y3
  exact own_put (i := 4) (x := y4) h3 b3 hT

/-- A node all of whose lists lie in rows of their own. -/
structure OwnL (w : World) (B : Nat) (a b c d e : Value) (n : Nd) : Prop where
  a : w.ownsRow B 45 3 a n.pairs.length (n.pairs.flatMap encP)
  l : ∀ x ∈ n.pairs, x.1.length ≤ maxLen ∧ x.2.1.length ≤ maxLen
  b : w.ownsRow B 9 1 b n.pivots.length (n.pivots.flatMap encT)
  c : w.ownsRow B 3 1 c n.kids.length (n.kids.flatMap encI)
  d : w.ownsRow B 72 4 d n.sums.length (n.sums.flatMap encSm)
  e : w.ownsRow B 59 8 e n.buf.length (n.buf.flatMap encML)
def OwnNode (w : World) (B : Nat) (v : Value) (n : Nd) : Prop :=
  ∃ pa ca pb cb pc cc pd cd pe ce, v = .agg #[.slice pa n.pairs.length ca, .slice pb n.pivots.length cb, .slice pc n.kids.length cc, .slice pd n.sums.length cd, .slice pe n.buf.length ce] ∧
    OwnL w B (.slice pa n.pairs.length ca) (.slice pb n.pivots.length cb) (.slice pc n.kids.length cc) (.slice pd n.sums.length cd) (.slice pe n.buf.length ce) n
theorem OwnL.node {w : World} {B : Nat} {a b c d e : Value} {n : Nd} (h : OwnL w B a b c d e n) : OwnNode w B (.agg #[a, b, c, d, e]) n := by
  obtain ⟨pa, ca, rfl, -⟩ := id (IsPairs.owned h.a h.l)
  obtain ⟨pb, cb, rfl, -⟩ := id (IsStrs.ownedT h.b)
  obtain ⟨pc, cc, rfl, -⟩ := id (IsInts.owned h.c)
  obtain ⟨pd, cd, rfl, -⟩ := id (IsSums.owned h.d)
  obtain ⟨pe, ce, rfl, -⟩ := id (IsMsgs.ownedM h.e)
  exact ⟨_, _, _, _, _, _, _, _, _, _, rfl, h⟩
theorem OwnNode.is {w : World} {B : Nat} {v : Value} {n : Nd} (h : OwnNode w B v n) : IsNode w v n := by
  obtain ⟨pa, ca, pb, cb, pc, cc, pd, cd, pe, ce, rfl, h⟩ := h
  exact ⟨_, _, _, _, _, rfl, IsPairs.owned h.a h.l, IsStrs.ownedT h.b, IsInts.owned h.c, IsSums.owned h.d, IsMsgs.ownedM h.e⟩
theorem OwnL.base {w : World} {B C : Nat} {a b c d e : Value} {n : Nd} (h : OwnL w B a b c d e n) (hc : C ≤ B) : OwnL w C a b c d e n :=
  ⟨owns_baseG hc h.a, h.l, owns_baseG hc h.b, owns_baseG hc h.c, owns_baseG hc h.d, owns_baseG hc h.e⟩
theorem OwnL.st5 {w : World} {B k : Nat} {a b c d e : Value} {n : Nd} {y0 y1 y2 y3 y4 x0 x1 x2 x3 x4 : Value} (h : OwnL w B a b c d e n) (hc : Blk w k 43 #[x0, x1, x2, x3, x4]) : OwnL (Go.Proofs.Ythpajecigkfajaa.st5 w k y0 y1 y2 y3 y4) B a b c d e n :=
  ⟨own_st5 h.a hc (by decide), h.l, own_st5 h.b hc (by decide), own_st5 h.c hc (by decide), own_st5 h.d hc (by decide), own_st5 h.e hc (by decide)⟩
theorem OwnL.alloc {w : World} {B : Nat} {a b c d e : Value} {n : Nd} (h : OwnL w B a b c d e n) (o : Obj) : OwnL (w.alloc o) B a b c d e n :=
  ⟨own_alloc h.a o, h.l, own_alloc h.b o, own_alloc h.c o, own_alloc h.d o, own_alloc h.e o⟩
theorem OwnL.grown {w wx : World} {B : Nat} {a b c d e : Value} {n : Nd} (h : OwnL w B a b c d e n) (hg : Below w.heap.size w wx) : OwnL wx B a b c d e n :=
  ⟨owns_below h.a hg, h.l, owns_below h.b hg, owns_below h.c hg, owns_below h.d hg, owns_below h.e hg⟩
theorem OwnL.nil (w : World) (B : Nat) : OwnL w B (.slice none 0 0) (.slice none 0 0) (.slice none 0 0) (.slice none 0 0) (.slice none 0 0) noNd :=
  ⟨World.ownsRow_nil _ _ _ _, fun x hx => (by cases hx), World.ownsRow_nil _ _ _ _, World.ownsRow_nil _ _ _ _, World.ownsRow_nil _ _ _ _, World.ownsRow_nil _ _ _ _⟩
end Go.Proofs.Ythpajecigkfajaa
namespace Go.Proofs.Ythpajecigkfajaa
open Go.RowKit Go.Sort
set_option linter.unusedVariables false

theorem nodeR_pairs (s : RS) : (nodeR s).1.pairs.length < 4294967296 := by
  unfold nodeR
  simp only
  split
  · have h1 := listP_le pairR (numP 4 (numP 1 s).2).1 [] (numP 4 (numP 1 s).2).2
    have h2 := numF_small 4 (numP 1 s).2 (by omega)
    have h3 : (numP 4 (numP 1 s).2).1 = numF (takeP 4 (numP 1 s).2).1 := rfl
    simp at h1 ⊢
    omega
  split
  · unfold innerR
    simp only
    split
    · simp [noNd]
    · simp
  · simp [noNd]
theorem parseN_is (b : Bs) (n : Nd) (s : RS) (h : nodeR (b, false) = (n, s)) : parseN b = if s.2 = true ∨ s.1 ≠ [] ∨ validN n ([], []) = false then none else some n := by
  unfold parseN; rw [h]
/-- What Parse hands back. -/
def ParseOut (w : World) (x : Option Nd) (e : Ending) (w' : World) : Prop := ∃ v', e = .returned (.tuple #[v', .int .i64 (if x.isSome then 0 else 100)]) ∧ OwnNode w' w.heap.size v' (x.getD noNd) ∧ Below w.heap.size w w'
theorem below_st5 {B c : Nat} {x y : World} {y0 y1 y2 y3 y4 : Value} (h : Below B x y) (hc : B ≤ c) : Below B x (Go.Proofs.Ythpajecigkfajaa.st5 y c y0 y1 y2 y3 y4) :=
  ((((h.setCell (p := ⟨c, 0, none⟩) hc _).setCell (p := ⟨c, 1, none⟩) hc _).setCell (p := ⟨c, 2, none⟩) hc _).setCell (p := ⟨c, 3, none⟩) hc _).setCell (p := ⟨c, 4, none⟩) hc _
theorem five_own {w : World} {B : Nat} {a b c d e : Value} {n : Nd} (h : OwnL w B a b c d e n) : IsNode w (.agg #[a, b, c, d, e]) n := h.node.is

end Go.Proofs.Ythpajecigkfajaa
