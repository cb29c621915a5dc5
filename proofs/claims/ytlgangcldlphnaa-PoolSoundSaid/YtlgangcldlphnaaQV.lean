/-
  Plain: what the law PoolShares asks: what one root reaches stays; contracts.
-/
import Derived.Test.YtlgangcldlphnaaQT
namespace Go.Proofs.Ytlgangcldlphnaa
open Go.RowKit Go.Sort
set_option linter.unusedVariables false
set_option maxRecDepth 100000

theorem getD_at' {R : List Int} {m : Nat} (h : m < R.length) : R.getD m 0 = R[m] := by rw [List.getD_eq_getElem?_getD, List.getElem?_eq_getElem h]; rfl
/-- The roots from i on, without the one at k. -/
def othR (R : List Int) (k i : Nat) : List Int := if i ≤ k then (R.drop i).eraseIdx (k - i) else R.drop i
theorem oth_next {R : List Int} {k i : Nat} (h : i < R.length) (hne : i ≠ k) : othR R k i = R[i] :: othR R k (i + 1) := by
  unfold othR
  rw [List.drop_eq_getElem_cons h]
  by_cases hik : i ≤ k
  · rw [if_pos hik, if_pos (by omega), show k - i = (k - (i + 1)) + 1 by omega, List.eraseIdx_cons_succ]
  · rw [if_neg hik, if_neg (by omega)]
theorem oth_same {R : List Int} {k : Nat} (h : k < R.length) : othR R k k = othR R k (k + 1) := by
  unfold othR
  rw [if_pos (Nat.le_refl _), if_neg (by omega), Nat.sub_self, List.drop_eq_getElem_cons h, List.eraseIdx_cons_zero]
theorem oth_end {R : List Int} {k : Nat} (h : k < R.length) : othR R k R.length = [] := by
  unfold othR; rw [if_neg (by omega), List.drop_length]
theorem oth_zero {R : List Int} {k : Nat} (h : k < R.length) : R.Perm (R[k] :: othR R k 0) := by
  have hp := roots_perm h
  rw [getD_at' h] at hp
  unfold othR
  rw [if_pos (Nat.zero_le _), List.drop_zero, Nat.sub_zero, List.eraseIdx_eq_take_drop_succ]
  exact hp
theorem Good.perm {P : List Sl} {R X : List Int} {j : Nat} (h : Good P R j) (hp : R.Perm X) : Good P X j :=
  ⟨h.fair.perm hp, h.tidy, h.acyc, h.plen, by rw [← hp.length_eq]; exact h.rlen, h.bare, h.kids, h.pairs, h.lost⟩
theorem live_idx {P : List Sl} {m : List Bool} (h : ∀ i, mkd m i = (atP P i).used) : ∀ k, k ≤ P.length → liveP (P.take k) = (idxM m k).length
  | 0, _ => rfl
  | k + 1, hk => by
    rw [live_snoc (by omega), idxM_snoc, List.length_append, live_idx h k (by omega), h k]
    by_cases hu : (atP P k).used = true
    · rw [if_pos hu, if_pos hu]; rfl
    · rw [if_neg hu, if_neg hu]; rfl
theorem live_reach {P : List Sl} {R : List Int} {j : Nat} (h : Good P R j) : liveP P = (reachP P R).length := by
  have hm : ∀ i, mkd (marksP P R) i = (atP P i).used := fun i => by
    rw [Bool.eq_iff_iff, (marksP_vis P R).iff i]
    exact ⟨fun h => h.used, fun hu => h.fair.reached h.tidy h.acyc i hu⟩
  have := live_idx hm P.length (Nat.le_refl _)
  rw [List.take_length] at this
  exact this
theorem reach_same {P Q : List Sl} {W : List Int} (hl : Less P Q) (hf : Fair Q W) : reachP Q W = reachP P W := by
  unfold reachP
  rw [← hl.1]
  refine idx_congr _ fun i => ?_
  rw [Bool.eq_iff_iff, (marksP_vis Q W).iff i, (marksP_vis P W).iff i]
  exact ⟨hl.back, hl.fore hf⟩
/-- The node of an id that is used, and not lost. -/
theorem get_yes {P : List Sl} {R : List Int} {j : Nat} (h : Good P R j) {i : Nat} (hu : (atP P i).used = true) : getP P (i : Int) = ((atP P i).node, 0) := by
  unfold getP
  rw [if_pos (by rw [usedB_nat]; exact hu), show ((i : Int)).toNat = i by omega, if_neg (by rw [h.lost i]; simp)]
theorem g_get {v : Value} {P : List Sl} {R : List Int} {i j : Nat} {w : World} (hg : Good P R j) (hu : (atP P i).used = true) (h : IsSlots w v P) :
    Calls Try.prog 19 #[poolV v, .int .i64 (i : Int)] w fun e w' => ∃ a a1 a2 b b1 b2 c c1 c2 d d1 d2 g g1 g2, e = .returned (.tuple #[.agg #[.slice a a1 a2, .slice b b1 b2, .slice c c1 c2, .slice d d1 d2, .slice g g1 g2], .int .i64 0]) ∧ IsNode w' (.agg #[.slice a a1 a2, .slice b b1 b2, .slice c c1 c2, .slice d d1 d2, .slice g g1 g2]) (atP P i).node ∧ Below w.heap.size w w' := by
  refine (get_w v P i w h).mono fun e w' ⟨nv, h1, h2, h3⟩ => ?_
  rw [get_yes hg hu] at h1 h2
  obtain ⟨a, b, c, d, g, rfl, p1, p2, p3, p4, p5⟩ := h2
  obtain ⟨a0, a2, rfl, -⟩ := id p1
  obtain ⟨b0, b2, rfl, -⟩ := id p2
  obtain ⟨c0, c2, rfl, -⟩ := id p3
  obtain ⟨d0, d2, rfl, -⟩ := id p4
  obtain ⟨g0, g2, rfl, -⟩ := id p5
  exact ⟨_, _, _, _, _, _, _, _, _, _, _, _, _, _, _, h1, ⟨_, _, _, _, _, rfl, p1, p2, p3, p4, p5⟩, h3⟩
/-- A node stays, but for a store into a box of slices. -/
theorem node_butS {w w' : World} {v : Value} {n : Nd} {r : Nat} (h : IsNode w v n) (hn : Bare n) (hr : OnlyS w r) (hb : ButP r w w') : IsNode w' v n := by
  obtain ⟨x1, x2, x3, x4, x5, rfl, h1, h2, h3, h4, h5⟩ := h
  obtain ⟨e1, e2, e3⟩ := hn
  refine ⟨_, _, _, _, _, rfl, pairs_but h1 hb (pairs_offS h1 hr), ?_, ints_but h3 hb (ints_offS h3 hr), ?_, ?_⟩
  · rw [e1] at h2 ⊢
    obtain ⟨a, cap, e, x1, x2, -⟩ := h2
    exact ⟨a, cap, e, x1, x2, fun h => absurd rfl h⟩
  · rw [e2] at h4 ⊢
    obtain ⟨a, cap, e, x1, x2, -⟩ := h4
    exact ⟨a, cap, e, x1, x2, fun h => absurd rfl h⟩
  · rw [e3] at h5 ⊢
    obtain ⟨a, cap, e, x1, x2, -⟩ := h5
    exact ⟨a, cap, e, x1, x2, fun h => absurd rfl h⟩
theorem onlyS5 {w : World} {r : Nat} {T : TypeId} {a0 a1 a2 a3 a4 : Option Addr} {n0 n1 n2 n3 n4 c0 c1 c2 c3 c4 : Nat} (h : Blk w r T #[.slice a0 n0 c0, .slice a1 n1 c1, .slice a2 n2 c2, .slice a3 n3 c3, .slice a4 n4 c4]) : OnlyS w r := by
  intro o u hu
  rw [h.cell] at hu
  match o, hu with
  | 0, hu => exact ⟨_, _, _, (Option.some.inj hu).symm⟩
  | 1, hu => exact ⟨_, _, _, (Option.some.inj hu).symm⟩
  | 2, hu => exact ⟨_, _, _, (Option.some.inj hu).symm⟩
  | 3, hu => exact ⟨_, _, _, (Option.some.inj hu).symm⟩
  | 4, hu => exact ⟨_, _, _, (Option.some.inj hu).symm⟩
  | k + 5, hu => simp at hu
/-- Where a node lies that Get gave. -/
def GetR (wr : World) (n : Nd) (s17 s16 : Value) (wx : World) : Prop := ∃ b a a1 a2 d d1 d2 c c1 c2 f f1 f2 g g1 g2, s17 = .int .i64 0 ∧ s16 = .pointer (some ⟨b, 0, none⟩) ∧ wr.heap.size ≤ b ∧ Blk wx b 39 #[.slice a a1 a2, .slice d d1 d2, .slice c c1 c2, .slice f f1 f2, .slice g g1 g2] ∧ IsNode wx (.agg #[.slice a a1 a2, .slice d d1 d2, .slice c c1 c2, .slice f f1 f2, .slice g g1 g2]) n ∧ Below wr.heap.size wr wx
theorem GetR.fresh {wr wx : World} {n : Nd} {a d c f g : Option Addr} {a1 a2 d1 d2 c1 c2 f1 f2 g1 g2 : Nat} (hn : IsNode wx (.agg #[.slice a a1 a2, .slice d d1 d2, .slice c c1 c2, .slice f f1 f2, .slice g g1 g2]) n) (hb : Below wr.heap.size wr wx) :
    GetR wr n (.int .i64 0) (.pointer (some ⟨wx.heap.size, 0, none⟩)) (wx.alloc (.cells #[.slice a a1 a2, .slice d d1 d2, .slice c c1 c2, .slice f f1 f2, .slice g g1 g2] 39)) :=
  ⟨_, _, _, _, _, _, _, _, _, _, _, _, _, _, _, _, rfl, rfl, hb.size, Blk.new _ _ _, hn.below (below_box _), keepP hb _⟩
@[reducible] def set5 (wx : World) (b : Nat) (x y z u v : Value) : World := ((((wx.setCell ⟨b, 0, none⟩ x).setCell ⟨b, 1, none⟩ y).setCell ⟨b, 2, none⟩ z).setCell ⟨b, 3, none⟩ u).setCell ⟨b, 4, none⟩ v
theorem but_set5 (wx : World) (b : Nat) (x y z u v : Value) : ButP b wx (set5 wx b x y z u v) := ((((ButP.setCell b 0 _ wx).trans (ButP.setCell b 1 _ _)).trans (ButP.setCell b 2 _ _)).trans (ButP.setCell b 3 _ _)).trans (ButP.setCell b 4 _ _)
theorem GetR.stored {wr wx : World} {n : Nd} {b : Nat} {a d c f g : Option Addr} {a1 a2 d1 d2 c1 c2 f1 f2 g1 g2 : Nat} (hz : Blk wx b 39 #[.slice none 0 0, .slice none 0 0, .slice none 0 0, .slice none 0 0, .slice none 0 0]) (hn : IsNode wx (.agg #[.slice a a1 a2, .slice d d1 d2, .slice c c1 c2, .slice f f1 f2, .slice g g1 g2]) n) (hbare : Bare n) (hb : Below wr.heap.size wr wx) (hle : wr.heap.size ≤ b) :
    GetR wr n (.int .i64 0) (.pointer (some ⟨b, 0, none⟩)) (set5 wx b (.slice a a1 a2) (.slice d d1 d2) (.slice c c1 c2) (.slice f f1 f2) (.slice g g1 g2)) :=
  ⟨_, _, _, _, _, _, _, _, _, _, _, _, _, _, _, _, rfl, rfl, hle, ((((hz.setCell 0 _).setCell 1 _).setCell 2 _).setCell 3 _).setCell 4 _, node_butS hn hbare (onlyS5 hz) (but_set5 _ _ _ _ _ _ _), below_set5 hb b hle _ _ _ _ _⟩

end Go.Proofs.Ytlgangcldlphnaa
