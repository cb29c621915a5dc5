/-
  The fixed examples: the region of eight literals.
-/
import Derived.Test.YthpajecigkfajaaAL
namespace Go.Proofs.Ythpajecigkfajaa
open Go.RowKit Go.Sort
set_option linter.unusedVariables false
set_option maxRecDepth 1000000

def codeOps : Code → Array Oper
  | .region _ ops _ => ops
  | _ => #[]
/-- What the lattice law asks of a region's operations. -/
def latOp (ops : Array Oper) (k N i : Nat) : Bool :=
  match ops[i]? with
  | none => false
  | some o => o.guard.isNone && (o.after.toList.all fun e => decide (e.on < i)) &&
    (match o.dst with
      | none => true
      | some d => decide (d < N) && (List.range (k + 1)).all fun j => j == i || (match ops[j]? with
        | none => true
        | some oj => !(oj.dst == some d))) &&
    (!(i == k) || (List.range k).all fun j => o.after.toList.any fun e => e.on == j && Region.binds .any e)
def latOK (ops : Array Oper) (k N : Nat) : Bool := ops.size == k + 1 && (List.range (k + 1)).all fun i => latOp ops k N i
theorem latOK_size {ops : Array Oper} {k N : Nat} (h : latOK ops k N = true) : ops.size = k + 1 := by
  unfold latOK at h
  rw [Bool.and_eq_true] at h
  exact of_decide_eq_true (by simpa using h.1)
theorem latOK_at {ops : Array Oper} {k N : Nat} (h : latOK ops k N = true) {i : Nat} {o : Oper} (ho : ops[i]? = some o) : o.guard = none ∧ (∀ e ∈ o.after, e.on < i) ∧ (∀ d, o.dst = some d → d < N ∧ ∀ (j : Nat) oj, ops[j]? = some oj → oj.dst = some d → j = i) ∧ (i = k → ∀ j, j < k → ∃ e ∈ o.after, e.on = j ∧ Region.binds .any e = true) := by
  have hs := latOK_size h
  unfold latOK at h
  rw [Bool.and_eq_true] at h
  have hil : i < ops.size := (Array.getElem?_eq_some_iff.1 ho).1
  have h2 := List.all_eq_true.1 h.2 i (List.mem_range.2 (by omega))
  unfold latOp at h2
  rw [ho] at h2
  simp only [Bool.and_eq_true] at h2
  obtain ⟨⟨⟨h3, h4⟩, h5⟩, h6⟩ := h2
  refine ⟨by simpa using h3, fun e he => ?_, fun d hd => ?_, fun hik j hj => ?_⟩
  · exact of_decide_eq_true (List.all_eq_true.1 h4 e (Array.mem_toList_iff.2 he))
  · rw [hd] at h5
    simp only [Bool.and_eq_true] at h5
    refine ⟨of_decide_eq_true h5.1, fun j oj hoj hdj => ?_⟩
    have hjl : j < ops.size := (Array.getElem?_eq_some_iff.1 hoj).1
    have h7 := List.all_eq_true.1 h5.2 j (List.mem_range.2 (by omega))
    rw [hoj] at h7
    simp only [Bool.or_eq_true] at h7
    rcases h7 with h7 | h7
    · simpa using h7
    · rw [hdj] at h7; simp at h7
  · subst hik
    simp only [beq_self_eq_true, Bool.not_true, Bool.false_or] at h6
    have h7 := List.all_eq_true.1 h6 j (List.mem_range.2 hj)
    obtain ⟨e, he, hb⟩ := List.any_eq_true.1 h7
    rw [Bool.and_eq_true] at hb
    exact ⟨e, Array.mem_toList_iff.1 he, by simpa using hb.1, hb.2⟩
noncomputable def rg9 : Code := ((Try.f6.body.bind (codeReg 9)).getD .skip)
theorem rg9_ok : latOK (codeOps rg9) 18 142 = true := by kernel_rfl
def nodA : Nd := ⟨[], [[98]], [1, 2], [zeroSm, zeroSm], []⟩
def nodB : Nd := ⟨[], [[100]], [3, 4], [zeroSm, zeroSm], []⟩
def nodC : Nd := ⟨[], [], [5], [zeroSm], []⟩
@[reducible] def sl0 (b n : Nat) : Sl3 := (some ⟨b, 0, none⟩, n, n)
/-- What each operation of the region yields. -/
def G9 (zb nb : Nat) (n4 : Sl3) (B : Nat) (i : Nat) (v : Value) (w : World) : Prop :=
  match i with
  | 0 => ∃ b, v = slV (sl0 b 2) ∧ IsInts w v [1, 2]
  | 1 => ∃ b, v = slV (sl0 b 1) ∧ IsStrs w v [[98]]
  | 2 => v = .slice (some ⟨zb, 0, none⟩) 2 2
  | 3 => ∃ x : Nv, v = nodV x ∧ IsNode w v nodA
  | 4 => ∃ b, v = slV (sl0 b 2) ∧ IsInts w v [3, 4]
  | 5 => ∃ b, v = slV (sl0 b 1) ∧ IsStrs w v [[100]]
  | 6 => v = .slice (some ⟨zb, 0, none⟩) 2 2
  | 7 => ∃ x : Nv, v = nodV x ∧ IsNode w v nodB
  | 8 => ∃ b, v = slV (sl0 b 1) ∧ IsInts w v [5]
  | 9 => v = .slice (some ⟨zb, 0, none⟩) 2 2
  | 10 => v = .slice (some ⟨zb, 0, none⟩) 1 2
  | 11 => ∃ x : Nv, v = nodV x ∧ IsNode w v nodC
  | 12 => ∃ b, v = slV (sl0 b 3) ∧ IsNodes w v want5
  | 13 => ∃ b, v = slV (sl0 b 2) ∧ IsStrs w v [[99], [101]]
  | 14 => v = .pointer (some ⟨nb, 4, none⟩)
  | 15 => v = slV n4
  | 16 => ∃ y0 y1 y2 : Sl3, v = .agg #[slV y0, slV y1, slV y2] ∧ IsSplit w v want5 [[99], [101]] [delK]
  | 17 => ∃ qb, v = .pointer (some ⟨qb, 0, none⟩) ∧ Blk w qb 38 #[.slice none 0 0, .slice none 0 0, .slice none 0 0] ∧ B ≤ qb
  | _ => True
theorem G9.below {zb nb : Nat} {n4 : Sl3} {B i : Nat} {v : Value} {w w' : World} (h : G9 zb nb n4 B i v w) (hb : Below w.heap.size w w') : G9 zb nb n4 B i v w' := by
  unfold G9 at h ⊢
  split at h
  · obtain ⟨b, e, h⟩ := h; exact ⟨b, e, h.below hb⟩
  · obtain ⟨b, e, h⟩ := h; exact ⟨b, e, h.below hb⟩
  · exact h
  · obtain ⟨b, e, h⟩ := h; exact ⟨b, e, h.below hb⟩
  · obtain ⟨b, e, h⟩ := h; exact ⟨b, e, h.below hb⟩
  · obtain ⟨b, e, h⟩ := h; exact ⟨b, e, h.below hb⟩
  · exact h
  · obtain ⟨b, e, h⟩ := h; exact ⟨b, e, h.below hb⟩
  · obtain ⟨b, e, h⟩ := h; exact ⟨b, e, h.below hb⟩
  · exact h
  · exact h
  · obtain ⟨b, e, h⟩ := h; exact ⟨b, e, h.below hb⟩
  · obtain ⟨b, e, h⟩ := h; exact ⟨b, e, h.below hb⟩
  · obtain ⟨b, e, h⟩ := h; exact ⟨b, e, h.below hb⟩
  · exact h
  · exact h
  · obtain ⟨a, b, c, e, h⟩ := h; exact ⟨a, b, c, e, h.below hb⟩
  · obtain ⟨b, e, h, h2⟩ := h; exact ⟨b, e, h.below hb h.lt, h2⟩
  · trivial

theorem IsRow.keep3 {α : Type} {en : α → List Value} {k qb : Nat} {w : World} {v y0 y1 y2 : Value} {T : TypeId} {l : List α} (h : IsRow 0 en k w v l) (hb : Blk w qb T #[.slice none 0 0, .slice none 0 0, .slice none 0 0])
    (hne : l ≠ [] → ∃ i, ∃ h : i < l.length, ∃ (j : Nat) (u : Value), (en l[i])[j]? = some u ∧ u ≠ .slice none 0 0) : IsRow 0 en k (set3 w qb y0 y1 y2) v l := by
  obtain ⟨a, cap, h1, h2, h3, h4⟩ := h
  refine ⟨a, cap, h1, h2, h3, fun hl => ?_⟩
  obtain ⟨b, off, e, h0, hlt, hcs⟩ := h4 hl
  have hbq : b ≠ qb := by
    rintro rfl
    obtain ⟨i, hi, j, u, hu, hn⟩ := hne hl
    have hc := hcs i hi j u hu
    rw [hb.cell] at hc
    generalize off + i * k + j = m at hc
    match m, hc with
    | 0, hc => exact hn (Option.some.inj hc).symm
    | 1, hc => exact hn (Option.some.inj hc).symm
    | 2, hc => exact hn (Option.some.inj hc).symm
    | m + 3, hc => simp at hc
  refine ⟨b, off, e, h0, by simpa using hlt, fun i hi j u hu => ?_⟩
  have := hcs i hi j u hu
  unfold World.cell? at this ⊢
  rw [Below.heap_setCell _ _ _ _ hbq, Below.heap_setCell _ _ _ _ hbq, Below.heap_setCell _ _ _ _ hbq]; exact this
section
variable {qb : Nat} {w : World} {v y0 y1 y2 : Value} {T : TypeId} (hb : Blk w qb T #[.slice none 0 0, .slice none 0 0, .slice none 0 0])
include hb
theorem IsStrs.keep3 {l : List Bs} (h : IsStrs w v l) : IsStrs (set3 w qb y0 y1 y2) v l := (h.row.keep3 hb (fun hl => ⟨0, List.length_pos_iff.2 hl, 0, _, rfl, fun e => by cases e⟩)).strs
theorem IsInts.keep3 {l : List Int} (h : IsInts w v l) : IsInts (set3 w qb y0 y1 y2) v l := (h.row.keep3 hb (fun hl => ⟨0, List.length_pos_iff.2 hl, 0, _, rfl, fun e => by cases e⟩)).ints
theorem IsSums.keep3 {l : List Sm} (h : IsSums w v l) : IsSums (set3 w qb y0 y1 y2) v l := (h.row.keep3 hb (fun hl => ⟨0, List.length_pos_iff.2 hl, 0, _, rfl, fun e => by cases e⟩)).sums
theorem IsMsgs.keep3 {l : List Ms} (h : IsMsgs w v l) : IsMsgs (set3 w qb y0 y1 y2) v l := (h.row.keep3 hb (fun hl => ⟨0, List.length_pos_iff.2 hl, 0, _, rfl, fun e => by cases e⟩)).msgs
theorem IsPairs.keep3 {l : List Pr} (h : IsPairs w v l) : IsPairs (set3 w qb y0 y1 y2) v l := (h.row.keep3 hb (fun hl => ⟨0, List.length_pos_iff.2 hl, 0, _, rfl, fun e => by cases e⟩)).pairs h.small
theorem IsNode.keep3 {n : Nd} (h : IsNode w v n) : IsNode (set3 w qb y0 y1 y2) v n := by
  obtain ⟨a, b, c, d, e, h0, h1, h2, h3, h4, h5⟩ := h
  exact ⟨a, b, c, d, e, h0, h1.keep3 hb, h2.keep3 hb, h3.keep3 hb, h4.keep3 hb, h5.keep3 hb⟩
theorem IsNodes.keep3 {N : List Nd} (h : IsNodes w v N) (hk : ∀ n ∈ N, 0 < n.kids.length ∨ 0 < n.pairs.length) : IsNodes (set3 w qb y0 y1 y2) v N := by
  obtain ⟨X, h1, h2, h3⟩ := h
  refine ⟨X, h1, h2.keep3 hb (fun hl => ?_), fun i h h4 => (h3 i h h4).keep3 hb⟩
  have h0 : 0 < X.length := List.length_pos_iff.2 hl
  have h02 : 0 < N.length := by omega
  obtain ⟨a, b, c, d, e, e0, k1, -, k3, -⟩ := h3 0 h0 h02
  have e0 := e0
  unfold nodV at e0
  injection e0 with e0
  have e1 : slV X[0].a = a := by injection (congrArg (fun x : Array Value => x[0]?) e0 : some _ = some _)
  have e2 : slV X[0].c = c := by injection (congrArg (fun x : Array Value => x[2]?) e0 : some _ = some _)
  rcases hk _ (List.getElem_mem h02) with h5 | h5
  · refine ⟨0, h0, 2, slV X[0].c, rfl, fun e => ?_⟩
    rw [e2] at e
    obtain ⟨p, q, e6, -⟩ := k3
    rw [e6] at e
    injection e with _ e7 _
    omega
  · refine ⟨0, h0, 0, slV X[0].a, rfl, fun e => ?_⟩
    rw [e1] at e
    obtain ⟨p, q, e6, -⟩ := k1
    rw [e6] at e
    injection e with _ e7 _
    omega
theorem IsSplit.keep3 {L : List Nd} {P : List Bs} {U : List Ms} (h : IsSplit w v L P U) (hk : ∀ n ∈ L, 0 < n.kids.length ∨ 0 < n.pairs.length) : IsSplit (set3 w qb y0 y1 y2) v L P U := by
  obtain ⟨a, b, c, e, h1, h2, h3⟩ := h
  exact ⟨a, b, c, e, h1.keep3 hb hk, h2.keep3 hb, h3.keep3 hb⟩
end
theorem sums_one {w : World} {zb : Nat} (h : IsSums w (.slice (some ⟨zb, 0, none⟩) 2 2) [zeroSm, zeroSm]) : IsSums w (.slice (some ⟨zb, 0, none⟩) 1 2) [zeroSm] := by
  obtain ⟨a, cap, e, h2, h3, h4⟩ := h
  injection e with e1 e2 e3
  subst e1 e3
  obtain ⟨b, off, e, hlt, hc⟩ := h4 (by simp)
  exact ⟨_, 2, rfl, by simp, by unfold maxLen; omega, fun _ => ⟨b, off, e, hlt, fun i hi => by
    obtain rfl : i = 0 := by simpa using hi
    exact hc 0 (by simp)⟩⟩
section
variable (zb nb : Nat) (n4 : Sl3) (w8 : World) (a : Act) (w : World) (Q : Exit → Act → World → Prop)
/-- What a step of the region has to show. -/
def St9 (i : Nat) (o : Oper) : Prop :=
  Below w8.heap.size w8 w → a.tmps[5]?.getD undef = .pointer (some ⟨nb, 0, none⟩) → a.tmps[6]?.getD undef = .slice (some ⟨zb, 0, none⟩) 2 2 → (∀ wx, Below w8.heap.size w8 wx → wx.cell? ⟨nb, 4, none⟩ = some (slV n4)) →
  (IsSums w8 (.slice (some ⟨zb, 0, none⟩) 2 2) [zeroSm, zeroSm]) → (IsMsgs w8 (slV n4) [delK]) →
  (∀ e ∈ o.after, Region.binds .any e = true → ∀ oe d, (codeOps rg9)[e.on]? = some oe → oe.dst = some d → G9 zb nb n4 w8.heap.size e.on (a.tmps.getD d undef) w) →
  o.wp Try.prog a w (fun a' w' => ∃ v, a' = a.put o.dst v ∧ G9 zb nb n4 w8.heap.size i v w' ∧ Below w8.heap.size w8 w' ∧ ∀ i' v', G9 zb nb n4 w8.heap.size i' v' w → G9 zb nb n4 w8.heap.size i' v' w') Q
theorem st9_0 (o : Oper) (ho : (codeOps rg9)[0]? = some o) : St9 zb nb n4 w8 a w Q 0 o := by
  conv at ho => lhs; whnf; arg 1; whnf
  injection ho with ho
  subst ho
  intro hS h5 h6 hc hz hm hd
  clear hd
  unfold Oper.wp
  go_simp
  exact ⟨_, rfl, ⟨w.heap.size, rfl, (lit_row lenI [1, 2] rfl (by decide)).ints⟩, (hS.alloc hS.size _), fun _ _ h => h.below (below_box _)⟩
theorem st9_1 (o : Oper) (ho : (codeOps rg9)[1]? = some o) : St9 zb nb n4 w8 a w Q 1 o := by
  conv at ho => lhs; whnf; arg 1; whnf
  injection ho with ho
  subst ho
  intro hS h5 h6 hc hz hm hd
  clear hd
  unfold Oper.wp
  go_simp
  exact ⟨_, rfl, ⟨w.heap.size, rfl, (lit_row lenT [[98]] rfl (by decide)).strs⟩, (hS.alloc hS.size _), fun _ _ h => h.below (below_box _)⟩
theorem st9_2 (o : Oper) (ho : (codeOps rg9)[2]? = some o) : St9 zb nb n4 w8 a w Q 2 o := by
  conv at ho => lhs; whnf; arg 1; whnf
  injection ho with ho
  subst ho
  intro hS h5 h6 hc hz hm hd
  clear hd
  unfold Oper.wp
  go_simp
  exact ⟨_, rfl, rfl⟩
theorem st9_3 (o : Oper) (ho : (codeOps rg9)[3]? = some o) : St9 zb nb n4 w8 a w Q 3 o := by
  conv at ho => lhs; whnf; arg 1; whnf
  injection ho with ho
  subst ho
  intro hS h5 h6 hc hz hm hd
  have g0 := hd ⟨0, .data⟩ (by simp) rfl _ 37 rfl rfl
  simp only [Array.getD_eq_getD_getElem?] at g0
  obtain ⟨b0, e0, k0⟩ := g0
  rw [e0] at k0
  dsimp only [slV, sl0, nodV] at e0
  have g1 := hd ⟨1, .data⟩ (by simp) rfl _ 38 rfl rfl
  simp only [Array.getD_eq_getD_getElem?] at g1
  obtain ⟨b1, e1, k1⟩ := g1
  rw [e1] at k1
  dsimp only [slV, sl0, nodV] at e1
  have g2 := hd ⟨2, .data⟩ (by simp) rfl _ 39 rfl rfl
  simp only [Array.getD_eq_getD_getElem?] at g2
  have e2 : a.tmps[39]?.getD undef = .slice (some ⟨zb, 0, none⟩) 2 2 := g2
  clear g2
  try dsimp only [slV] at e2
  clear hd
  unfold Oper.wp
  go_simp
  exact ⟨_, rfl, ⟨⟨nil3, sl0 b1 1, sl0 b0 2, (some ⟨zb, 0, none⟩, 2, 2), nil3⟩, rfl, ⟨_, _, _, _, _, rfl, nil_pairs _, k1, k0, hz.below hS, nil_msgs _⟩⟩⟩
theorem st9_4 (o : Oper) (ho : (codeOps rg9)[4]? = some o) : St9 zb nb n4 w8 a w Q 4 o := by
  conv at ho => lhs; whnf; arg 1; whnf
  injection ho with ho
  subst ho
  intro hS h5 h6 hc hz hm hd
  clear hd
  unfold Oper.wp
  go_simp
  exact ⟨_, rfl, ⟨w.heap.size, rfl, (lit_row lenI [3, 4] rfl (by decide)).ints⟩, (hS.alloc hS.size _), fun _ _ h => h.below (below_box _)⟩
theorem st9_5 (o : Oper) (ho : (codeOps rg9)[5]? = some o) : St9 zb nb n4 w8 a w Q 5 o := by
  conv at ho => lhs; whnf; arg 1; whnf
  injection ho with ho
  subst ho
  intro hS h5 h6 hc hz hm hd
  clear hd
  unfold Oper.wp
  go_simp
  exact ⟨_, rfl, ⟨w.heap.size, rfl, (lit_row lenT [[100]] rfl (by decide)).strs⟩, (hS.alloc hS.size _), fun _ _ h => h.below (below_box _)⟩
theorem st9_6 (o : Oper) (ho : (codeOps rg9)[6]? = some o) : St9 zb nb n4 w8 a w Q 6 o := by
  conv at ho => lhs; whnf; arg 1; whnf
  injection ho with ho
  subst ho
  intro hS h5 h6 hc hz hm hd
  clear hd
  unfold Oper.wp
  go_simp
  exact ⟨_, rfl, rfl⟩
theorem st9_7 (o : Oper) (ho : (codeOps rg9)[7]? = some o) : St9 zb nb n4 w8 a w Q 7 o := by
  conv at ho => lhs; whnf; arg 1; whnf
  injection ho with ho
  subst ho
  intro hS h5 h6 hc hz hm hd
  have g4 := hd ⟨4, .data⟩ (by simp) rfl _ 41 rfl rfl
  simp only [Array.getD_eq_getD_getElem?] at g4
  obtain ⟨b4, e4, k4⟩ := g4
  rw [e4] at k4
  dsimp only [slV, sl0, nodV] at e4
  have g5 := hd ⟨5, .data⟩ (by simp) rfl _ 42 rfl rfl
  simp only [Array.getD_eq_getD_getElem?] at g5
  obtain ⟨b5, e5, k5⟩ := g5
  rw [e5] at k5
  dsimp only [slV, sl0, nodV] at e5
  have g6 := hd ⟨6, .data⟩ (by simp) rfl _ 43 rfl rfl
  simp only [Array.getD_eq_getD_getElem?] at g6
  have e6 : a.tmps[43]?.getD undef = .slice (some ⟨zb, 0, none⟩) 2 2 := g6
  clear g6
  try dsimp only [slV] at e6
  clear hd
  unfold Oper.wp
  go_simp
  exact ⟨_, rfl, ⟨⟨nil3, sl0 b5 1, sl0 b4 2, (some ⟨zb, 0, none⟩, 2, 2), nil3⟩, rfl, ⟨_, _, _, _, _, rfl, nil_pairs _, k5, k4, hz.below hS, nil_msgs _⟩⟩⟩
theorem st9_8 (o : Oper) (ho : (codeOps rg9)[8]? = some o) : St9 zb nb n4 w8 a w Q 8 o := by
  conv at ho => lhs; whnf; arg 1; whnf
  injection ho with ho
  subst ho
  intro hS h5 h6 hc hz hm hd
  clear hd
  unfold Oper.wp
  go_simp
  exact ⟨_, rfl, ⟨w.heap.size, rfl, (lit_row lenI [5] rfl (by decide)).ints⟩, (hS.alloc hS.size _), fun _ _ h => h.below (below_box _)⟩
theorem st9_9 (o : Oper) (ho : (codeOps rg9)[9]? = some o) : St9 zb nb n4 w8 a w Q 9 o := by
  conv at ho => lhs; whnf; arg 1; whnf
  injection ho with ho
  subst ho
  intro hS h5 h6 hc hz hm hd
  clear hd
  unfold Oper.wp
  go_simp
  exact ⟨_, rfl, rfl⟩
theorem st9_10 (o : Oper) (ho : (codeOps rg9)[10]? = some o) : St9 zb nb n4 w8 a w Q 10 o := by
  conv at ho => lhs; whnf; arg 1; whnf
  injection ho with ho
  subst ho
  intro hS h5 h6 hc hz hm hd
  have g9 := hd ⟨9, .data⟩ (by simp) rfl _ 46 rfl rfl
  simp only [Array.getD_eq_getD_getElem?] at g9
  have e9 : a.tmps[46]?.getD undef = .slice (some ⟨zb, 0, none⟩) 2 2 := g9
  clear g9
  try dsimp only [slV] at e9
  clear hd
  unfold Oper.wp
  go_simp
  exact ⟨_, rfl, rfl⟩
theorem st9_11 (o : Oper) (ho : (codeOps rg9)[11]? = some o) : St9 zb nb n4 w8 a w Q 11 o := by
  conv at ho => lhs; whnf; arg 1; whnf
  injection ho with ho
  subst ho
  intro hS h5 h6 hc hz hm hd
  have g8 := hd ⟨8, .data⟩ (by simp) rfl _ 45 rfl rfl
  simp only [Array.getD_eq_getD_getElem?] at g8
  obtain ⟨b8, e8, k8⟩ := g8
  rw [e8] at k8
  dsimp only [slV, sl0, nodV] at e8
  have g10 := hd ⟨10, .data⟩ (by simp) rfl _ 47 rfl rfl
  simp only [Array.getD_eq_getD_getElem?] at g10
  have e10 : a.tmps[47]?.getD undef = .slice (some ⟨zb, 0, none⟩) 1 2 := g10
  clear g10
  try dsimp only [slV] at e10
  clear hd
  unfold Oper.wp
  go_simp
  exact ⟨_, rfl, ⟨⟨nil3, nil3, sl0 b8 1, (some ⟨zb, 0, none⟩, 1, 2), nil3⟩, rfl, ⟨_, _, _, _, _, rfl, nil_pairs _, nil_strs _, k8, (sums_one hz).below hS, nil_msgs _⟩⟩⟩
theorem st9_12 (o : Oper) (ho : (codeOps rg9)[12]? = some o) : St9 zb nb n4 w8 a w Q 12 o := by
  conv at ho => lhs; whnf; arg 1; whnf
  injection ho with ho
  subst ho
  intro hS h5 h6 hc hz hm hd
  have g3 := hd ⟨3, .data⟩ (by simp) rfl _ 40 rfl rfl
  simp only [Array.getD_eq_getD_getElem?] at g3
  obtain ⟨x3, e3, k3⟩ := g3
  rw [e3] at k3
  dsimp only [slV, sl0, nodV] at e3
  have g7 := hd ⟨7, .data⟩ (by simp) rfl _ 44 rfl rfl
  simp only [Array.getD_eq_getD_getElem?] at g7
  obtain ⟨x7, e7, k7⟩ := g7
  rw [e7] at k7
  dsimp only [slV, sl0, nodV] at e7
  have g11 := hd ⟨11, .data⟩ (by simp) rfl _ 48 rfl rfl
  simp only [Array.getD_eq_getD_getElem?] at g11
  obtain ⟨x11, e11, k11⟩ := g11
  rw [e11] at k11
  dsimp only [slV, sl0, nodV] at e11
  clear hd
  unfold Oper.wp
  go_simp
  refine ⟨_, rfl, ⟨w.heap.size, rfl, ⟨[x3, x7, x11], rfl, lit_row lenN [x3, x7, x11] rfl (by simp), fun i h h2 => ?_⟩⟩, (hS.alloc hS.size _), fun _ _ h => h.below (below_box _)⟩
  match i, h, h2 with
  | 0, _, _ => exact k3.below (below_box _)
  | 1, _, _ => exact k7.below (below_box _)
  | 2, _, _ => exact k11.below (below_box _)
theorem st9_13 (o : Oper) (ho : (codeOps rg9)[13]? = some o) : St9 zb nb n4 w8 a w Q 13 o := by
  conv at ho => lhs; whnf; arg 1; whnf
  injection ho with ho
  subst ho
  intro hS h5 h6 hc hz hm hd
  clear hd
  unfold Oper.wp
  go_simp
  exact ⟨_, rfl, ⟨w.heap.size, rfl, (lit_row lenT [[99], [101]] rfl (by decide)).strs⟩, (hS.alloc hS.size _), fun _ _ h => h.below (below_box _)⟩
theorem st9_14 (o : Oper) (ho : (codeOps rg9)[14]? = some o) : St9 zb nb n4 w8 a w Q 14 o := by
  conv at ho => lhs; whnf; arg 1; whnf
  injection ho with ho
  subst ho
  intro hS h5 h6 hc hz hm hd
  clear hd
  unfold Oper.wp
  go_simp
  exact ⟨_, rfl, rfl⟩
theorem st9_15 (o : Oper) (ho : (codeOps rg9)[15]? = some o) : St9 zb nb n4 w8 a w Q 15 o := by
  conv at ho => lhs; whnf; arg 1; whnf
  injection ho with ho
  subst ho
  intro hS h5 h6 hc hz hm hd
  have g14 := hd ⟨14, .data⟩ (by simp) rfl _ 51 rfl rfl
  simp only [Array.getD_eq_getD_getElem?] at g14
  have e14 : a.tmps[51]?.getD undef = .pointer (some ⟨nb, 4, none⟩) := g14
  clear g14
  try dsimp only [slV] at e14
  have hcw := hc w hS
  dsimp only [slV] at hcw
  clear hd
  unfold Oper.wp
  go_simp
  exact ⟨_, rfl, rfl⟩
theorem st9_16 (o : Oper) (ho : (codeOps rg9)[16]? = some o) : St9 zb nb n4 w8 a w Q 16 o := by
  conv at ho => lhs; whnf; arg 1; whnf
  injection ho with ho
  subst ho
  intro hS h5 h6 hc hz hm hd
  have g12 := hd ⟨12, .data⟩ (by simp) rfl _ 49 rfl rfl
  simp only [Array.getD_eq_getD_getElem?] at g12
  obtain ⟨b12, e12, k12⟩ := g12
  rw [e12] at k12
  dsimp only [slV, sl0, nodV] at e12
  have g13 := hd ⟨13, .data⟩ (by simp) rfl _ 50 rfl rfl
  simp only [Array.getD_eq_getD_getElem?] at g13
  obtain ⟨b13, e13, k13⟩ := g13
  rw [e13] at k13
  dsimp only [slV, sl0, nodV] at e13
  have g15 := hd ⟨15, .data⟩ (by simp) rfl _ 52 rfl rfl
  simp only [Array.getD_eq_getD_getElem?] at g15
  have e15 : a.tmps[52]?.getD undef = slV n4 := g15
  clear g15
  try dsimp only [slV] at e15
  clear hd
  unfold Oper.wp
  go_simp
  exact ⟨_, rfl, ⟨sl0 b12 3, sl0 b13 2, n4, rfl, ⟨_, _, _, rfl, k12, k13, hm.below hS⟩⟩⟩
theorem st9_17 (o : Oper) (ho : (codeOps rg9)[17]? = some o) : St9 zb nb n4 w8 a w Q 17 o := by
  conv at ho => lhs; whnf; arg 1; whnf
  injection ho with ho
  subst ho
  intro hS h5 h6 hc hz hm hd
  clear hd
  unfold Oper.wp
  go_simp
  exact ⟨_, rfl, ⟨w.heap.size, rfl, Blk.new _ _ _, hS.size⟩, (hS.alloc hS.size _), fun _ _ h => h.below (below_box _)⟩
theorem st9_18 (o : Oper) (ho : (codeOps rg9)[18]? = some o) (hS : Below w8.heap.size w8 w) (h16 : G9 zb nb n4 w8.heap.size 16 (a.tmps.getD 53 undef) w) (h17 : G9 zb nb n4 w8.heap.size 17 (a.tmps.getD 7 undef) w)
    (hQ : ∀ (qb : Nat) (y0 y1 y2 : Sl3) (wx : World), a.tmps.getD 7 undef = .pointer (some ⟨qb, 0, none⟩) → Blk wx qb 38 #[slV y0, slV y1, slV y2] → IsSplit wx (.agg #[slV y0, slV y1, slV y2]) want5 [[99], [101]] [delK] → Below w8.heap.size w8 wx → Q .normal a wx) :
    o.wp Try.prog a w (fun a' w' => Q .normal a' w') Q := by
  conv at ho => lhs; whnf; arg 1; whnf
  injection ho with ho
  subst ho
  simp only [Array.getD_eq_getD_getElem?] at h16 h17 hQ
  obtain ⟨y0, y1, y2, e16, k16⟩ := h16
  rw [e16] at k16
  obtain ⟨qb, e17, k17, hB⟩ := h17
  dsimp only [slV] at e16
  obtain ⟨d0, d1, d2, f0, f1, f2⟩ := three_at k17
  unfold Oper.wp
  go_simp
  exact hQ qb y0 y1 y2 _ e17 (blk_set3 k17 _ _ _) (k16.keep3 k17 (by simp [want5])) (below_set3 hS qb hB _ _ _)
end

end Go.Proofs.Ythpajecigkfajaa
