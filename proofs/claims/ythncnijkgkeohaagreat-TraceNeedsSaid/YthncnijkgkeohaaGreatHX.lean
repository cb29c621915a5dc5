/-
  Walks: two prefixes in boxes, where a Move or a Clone is followed back: one lemma a state of the drawn region.
-/
import Derived.Test.YthncnijkgkeohaaGreatHW
namespace Go.Proofs.YthncnijkgkeohaaGreat
open Go.RowKit Go.Sort
set_option linter.unusedVariables false

/-- A region of a function's body, by its number. -/
def codeReg (n : Nat) : Code → Option Code
  | .region k ops d => if k = n then some (.region k ops d) else none
  | .seq a b => match codeReg n a with
    | some c => some c
    | none => codeReg n b
  | .block _ c => codeReg n c
  | .loop c => codeReg n c
  | .cond _ a b => match codeReg n a with
    | some c => some c
    | none => codeReg n b
  | _ => none
def codeOps : Code → Array Oper
  | .region _ ops _ => ops
  | _ => #[]
theorem wpAnyH_listed {P : Program} {md : Region.Mode} {ops : Array Oper} {Q : Exit → Act → World → Prop} {S : World → Prop} {fuel : Nat} {L L' : Array Bool} {a : Act} {w : World} (h : L = L') (hh : wpAnyH P md ops Q S fuel L' a w) : wpAnyH P md ops Q S fuel L a w := by
  rw [h]; exact hh
theorem Blk.set2F {w : World} {b : Nat} {T : TypeId} {x0 x1 : Value} (h : Blk w b T #[x0, x1]) (y0 y1 : Value) : Blk ((w.setCell ⟨b, 0, none⟩ y0).setCell ⟨b, 1, none⟩ y1) b T #[y0, y1] := (h.setCell 0 y0).setCell 1 y1
theorem Blk.other2F {w : World} {b c : Nat} {T : TypeId} {cs : Array Value} (h : Blk w b T cs) (hne : b ≠ c) (y0 y1 : Value) : Blk ((w.setCell ⟨c, 0, none⟩ y0).setCell ⟨c, 1, none⟩ y1) b T cs := (h.setCell_other hne 0 y0).setCell_other hne 1 y1
/-- The message's block. -/
structure PbS (w : World) (m : Ms) (wr : World) : Prop where
  b : Blk wr w.heap.size 63 (encM m)
  g : Below w.heap.size w wr
section
variable {w wx wy : World} {m : Ms}
theorem PbS.below (h : PbS w m wx) (hb : Below wx.heap.size wx wy) : PbS w m wy := ⟨h.b.below hb h.b.lt, h.g.trans (hb.mono h.g.size)⟩
theorem PbS.drew (h : PbS w m wx) : PbS w m wx.drew := h.below (below_drewN wx 1)
theorem PbS.alloc (h : PbS w m wx) (o : Obj) : PbS w m (wx.alloc o) := h.below (below_box _)
theorem PbS.st2 (h : PbS w m wx) (n : Nat) (hn : w.heap.size < n) (y0 y1 : Value) : PbS w m ((wx.setCell ⟨n, 0, none⟩ y0).setCell ⟨n, 1, none⟩ y1) := ⟨h.b.other2F (Nat.ne_of_lt hn) _ _, (h.g.setCell (Nat.le_of_lt hn) _).setCell (Nat.le_of_lt hn) _⟩
end
noncomputable def kb1R : Code := ((Tryz.f98.body.bind (codeReg 1)).getD .skip)
set_option maxRecDepth 1000000 in
set_option maxHeartbeats 8000000 in
theorem kb1_2_01 (w : World) (m : Ms) (v : Value) (Hp1 : ∀ wr, Calls Tryz.prog 99 #[.string (Str m.src)] wr fun e w' => e = .returned (.agg #[.string (Str m.src), .string (Str (preT m.src))]) ∧ Below wr.heap.size wr w') (Hp2 : ∀ wr, Calls Tryz.prog 99 #[.string (Str m.dst)] wr fun e w' => e = .returned (.agg #[.string (Str m.dst), .string (Str (preT m.dst))]) ∧ Below wr.heap.size wr w') (s3 s4 s7 s14 s15 s16 s17 s18 s19 s20 s21 s22 s23 s24 s25 s26 s27 : Value) (Q : Exit → Act → World → Prop) (hQ : ∀ (u8 u9 u10 u11 u12 u13 : Value) (b5 b6 : Nat) (wx : World), (Blk wx b5 29 #[.string (Str m.src), .string (Str (preT m.src))] ∧ Blk wx b6 29 #[.string (Str m.dst), .string (Str (preT m.dst))] ∧ b5 ≠ b6 ∧ w.heap.size < b5 ∧ w.heap.size < b6 ∧ PbS w m wx) → Q .normal ⟨#[msgV m, v, .pointer (some ⟨w.heap.size, 0, none⟩), s3, s4, .pointer (some ⟨b5, 0, none⟩), .pointer (some ⟨b6, 0, none⟩), s7, u8, u9, u10, u11, u12, u13, s14, s15, s16, s17, s18, s19, s20, s21, s22, s23, s24, s25, s26, s27], []⟩ wx)
     (wx : World) (hHeld : PbS w m wx) (b5 : Nat) (hz0 : Blk wx b5 29 #[.string ⟨#[]⟩, .string ⟨#[]⟩]) (hl0 : w.heap.size < b5) (b6 : Nat) (hz1 : Blk wx b6 29 #[.string ⟨#[]⟩, .string ⟨#[]⟩]) (hl1 : w.heap.size < b6) (hn01 : b5 ≠ b6) :
    wpAnyH Tryz.prog .any (codeOps kb1R) (NoPanic Q) (fun wr => PbS w m wr) 2 #[true, true, true, true, true, true, true, true, false, false] ⟨#[msgV m, v, .pointer (some ⟨w.heap.size, 0, none⟩), s3, s4, .pointer (some ⟨b5, 0, none⟩), .pointer (some ⟨b6, 0, none⟩), s7, .pointer (some ⟨w.heap.size, 5, none⟩), .string (Str m.src), .agg #[.string (Str m.src), .string (Str (preT m.src))], .pointer (some ⟨w.heap.size, 6, none⟩), .string (Str m.dst), .agg #[.string (Str m.dst), .string (Str (preT m.dst))], s14, s15, s16, s17, s18, s19, s20, s21, s22, s23, s24, s25, s26, s27], []⟩ wx := by
  have HQ := Lib.hid hQ
  clear hQ
  conv => arg 3; arg 1; whnf
  dsimp only [codeOps]
  have d0 := hz0.c0 0 _ rfl
  have g0 := hz0.free 0
  have d1 := hz0.c0 1 _ rfl
  have g1 := hz0.free 1
  refine wpAnyH_ready (rs := [8]) (by kernel_rfl) (by simp) ?_
  refine AllReadyH.cons (o := _) rfl (fun K hK => ?_) AllReadyH.nil
  go_simp
  clear d0 g0 d1 g1
  refine hK.out _ _ (by with_reducible exact PbS.st2 (by with_reducible assumption) b5 hl0 (.string (Str m.src)) (.string (Str (preT m.src)))) (fun hHeld => ?_)
  clear hK K
  try simp only [List.setIfInBounds_toArray, List.set_cons_zero, List.set_cons_succ]
  have hm0 : Blk (((wx).setCell ⟨b5, 0, none⟩ (.string (Str m.src))).setCell ⟨b5, 1, none⟩ (.string (Str (preT m.src)))) b5 29 #[.string (Str m.src), .string (Str (preT m.src))] := Blk.set2F hz0 (.string (Str m.src)) (.string (Str (preT m.src)))
  have hz1 : Blk (((wx).setCell ⟨b5, 0, none⟩ (.string (Str m.src))).setCell ⟨b5, 1, none⟩ (.string (Str (preT m.src)))) _ _ _ := Blk.other2F hz1 hn01.symm (.string (Str m.src)) (.string (Str (preT m.src)))
  clear hz0
  generalize ((wx).setCell ⟨b5, 0, none⟩ (.string (Str m.src))).setCell ⟨b5, 1, none⟩ (.string (Str (preT m.src))) = wy0 at *
  have d0 := hz1.c0 0 _ rfl
  have g0 := hz1.free 0
  have d1 := hz1.c0 1 _ rfl
  have g1 := hz1.free 1
  refine wpAnyH_ready (rs := [9]) (by kernel_rfl) (by simp) ?_
  refine AllReadyH.cons (o := _) rfl (fun K hK => ?_) AllReadyH.nil
  go_simp
  clear d0 g0 d1 g1
  refine hK.out _ _ (by with_reducible exact PbS.st2 (by with_reducible assumption) b6 hl1 (.string (Str m.dst)) (.string (Str (preT m.dst)))) (fun hHeld => ?_)
  clear hK K
  try simp only [List.setIfInBounds_toArray, List.set_cons_zero, List.set_cons_succ]
  have hm0 : Blk (((wy0).setCell ⟨b6, 0, none⟩ (.string (Str m.dst))).setCell ⟨b6, 1, none⟩ (.string (Str (preT m.dst)))) _ _ _ := Blk.other2F hm0 hn01 (.string (Str m.dst)) (.string (Str (preT m.dst)))
  have hm1 : Blk (((wy0).setCell ⟨b6, 0, none⟩ (.string (Str m.dst))).setCell ⟨b6, 1, none⟩ (.string (Str (preT m.dst)))) b6 29 #[.string (Str m.dst), .string (Str (preT m.dst))] := Blk.set2F hz1 (.string (Str m.dst)) (.string (Str (preT m.dst)))
  clear hz1
  generalize ((wy0).setCell ⟨b6, 0, none⟩ (.string (Str m.dst))).setCell ⟨b6, 1, none⟩ (.string (Str (preT m.dst))) = wy1 at *
  refine wpAnyH_done (by kernel_rfl) (NoPanic.normal (HQ.out _ _ _ _ _ _ b5 b6 _ ?_)) _
  exact ⟨hm0, hm1, hn01, hl0, hl1, hHeld⟩
set_option maxRecDepth 1000000 in
set_option maxHeartbeats 8000000 in
theorem kb1_2_1 (w : World) (m : Ms) (v : Value) (Hp1 : ∀ wr, Calls Tryz.prog 99 #[.string (Str m.src)] wr fun e w' => e = .returned (.agg #[.string (Str m.src), .string (Str (preT m.src))]) ∧ Below wr.heap.size wr w') (Hp2 : ∀ wr, Calls Tryz.prog 99 #[.string (Str m.dst)] wr fun e w' => e = .returned (.agg #[.string (Str m.dst), .string (Str (preT m.dst))]) ∧ Below wr.heap.size wr w') (s3 s4 s7 s14 s15 s16 s17 s18 s19 s20 s21 s22 s23 s24 s25 s26 s27 : Value) (Q : Exit → Act → World → Prop) (hQ : ∀ (u8 u9 u10 u11 u12 u13 : Value) (b5 b6 : Nat) (wx : World), (Blk wx b5 29 #[.string (Str m.src), .string (Str (preT m.src))] ∧ Blk wx b6 29 #[.string (Str m.dst), .string (Str (preT m.dst))] ∧ b5 ≠ b6 ∧ w.heap.size < b5 ∧ w.heap.size < b6 ∧ PbS w m wx) → Q .normal ⟨#[msgV m, v, .pointer (some ⟨w.heap.size, 0, none⟩), s3, s4, .pointer (some ⟨b5, 0, none⟩), .pointer (some ⟨b6, 0, none⟩), s7, u8, u9, u10, u11, u12, u13, s14, s15, s16, s17, s18, s19, s20, s21, s22, s23, s24, s25, s26, s27], []⟩ wx)
    (s5 : Value) (wx : World) (hHeld : PbS w m wx) (b6 : Nat) (hz1 : Blk wx b6 29 #[.string ⟨#[]⟩, .string ⟨#[]⟩]) (hl1 : w.heap.size < b6) :
    wpAnyH Tryz.prog .any (codeOps kb1R) (NoPanic Q) (fun wr => PbS w m wr) 3 #[true, true, true, true, true, true, false, true, false, false] ⟨#[msgV m, v, .pointer (some ⟨w.heap.size, 0, none⟩), s3, s4, s5, .pointer (some ⟨b6, 0, none⟩), s7, .pointer (some ⟨w.heap.size, 5, none⟩), .string (Str m.src), .agg #[.string (Str m.src), .string (Str (preT m.src))], .pointer (some ⟨w.heap.size, 6, none⟩), .string (Str m.dst), .agg #[.string (Str m.dst), .string (Str (preT m.dst))], s14, s15, s16, s17, s18, s19, s20, s21, s22, s23, s24, s25, s26, s27], []⟩ wx := by
  have HN0 := Lib.hid (kb1_2_01 w m v Hp1 Hp2 s3 s4 s7 s14 s15 s16 s17 s18 s19 s20 s21 s22 s23 s24 s25 s26 s27 Q hQ)
  clear hQ
  have hltw := hHeld.b.lt
  conv => arg 3; arg 1; whnf
  dsimp only [codeOps]
  refine wpAnyH_ready (rs := [6]) (by kernel_rfl) (by simp) ?_
  refine AllReadyH.cons (o := _) rfl (fun K hK => ?_) AllReadyH.nil
  · go_simp
    refine hK.out _ _ (by (first | with_reducible assumption | with_reducible exact PbS.below (by with_reducible assumption) (by with_reducible assumption) | with_reducible exact PbS.alloc (by with_reducible assumption) _)) (fun hHeld => ?_)
    clear hK K
    try simp only [List.setIfInBounds_toArray, List.set_cons_zero, List.set_cons_succ]
    exact wpAnyH_listed (by kernel_rfl) (HN0.out  _ (by with_reducible assumption) _ (Blk.new _ _ _) hltw _ (hz1.alloc _) hl1 (Nat.ne_of_gt hz1.lt))
set_option maxRecDepth 1000000 in
set_option maxHeartbeats 8000000 in
theorem kb1_2_0 (w : World) (m : Ms) (v : Value) (Hp1 : ∀ wr, Calls Tryz.prog 99 #[.string (Str m.src)] wr fun e w' => e = .returned (.agg #[.string (Str m.src), .string (Str (preT m.src))]) ∧ Below wr.heap.size wr w') (Hp2 : ∀ wr, Calls Tryz.prog 99 #[.string (Str m.dst)] wr fun e w' => e = .returned (.agg #[.string (Str m.dst), .string (Str (preT m.dst))]) ∧ Below wr.heap.size wr w') (s3 s4 s7 s14 s15 s16 s17 s18 s19 s20 s21 s22 s23 s24 s25 s26 s27 : Value) (Q : Exit → Act → World → Prop) (hQ : ∀ (u8 u9 u10 u11 u12 u13 : Value) (b5 b6 : Nat) (wx : World), (Blk wx b5 29 #[.string (Str m.src), .string (Str (preT m.src))] ∧ Blk wx b6 29 #[.string (Str m.dst), .string (Str (preT m.dst))] ∧ b5 ≠ b6 ∧ w.heap.size < b5 ∧ w.heap.size < b6 ∧ PbS w m wx) → Q .normal ⟨#[msgV m, v, .pointer (some ⟨w.heap.size, 0, none⟩), s3, s4, .pointer (some ⟨b5, 0, none⟩), .pointer (some ⟨b6, 0, none⟩), s7, u8, u9, u10, u11, u12, u13, s14, s15, s16, s17, s18, s19, s20, s21, s22, s23, s24, s25, s26, s27], []⟩ wx)
    (s6 : Value) (wx : World) (hHeld : PbS w m wx) (b5 : Nat) (hz0 : Blk wx b5 29 #[.string ⟨#[]⟩, .string ⟨#[]⟩]) (hl0 : w.heap.size < b5) :
    wpAnyH Tryz.prog .any (codeOps kb1R) (NoPanic Q) (fun wr => PbS w m wr) 3 #[true, true, true, true, true, true, true, false, false, false] ⟨#[msgV m, v, .pointer (some ⟨w.heap.size, 0, none⟩), s3, s4, .pointer (some ⟨b5, 0, none⟩), s6, s7, .pointer (some ⟨w.heap.size, 5, none⟩), .string (Str m.src), .agg #[.string (Str m.src), .string (Str (preT m.src))], .pointer (some ⟨w.heap.size, 6, none⟩), .string (Str m.dst), .agg #[.string (Str m.dst), .string (Str (preT m.dst))], s14, s15, s16, s17, s18, s19, s20, s21, s22, s23, s24, s25, s26, s27], []⟩ wx := by
  have HN0 := Lib.hid (kb1_2_01 w m v Hp1 Hp2 s3 s4 s7 s14 s15 s16 s17 s18 s19 s20 s21 s22 s23 s24 s25 s26 s27 Q hQ)
  clear hQ
  have hltw := hHeld.b.lt
  conv => arg 3; arg 1; whnf
  dsimp only [codeOps]
  refine wpAnyH_ready (rs := [7]) (by kernel_rfl) (by simp) ?_
  refine AllReadyH.cons (o := _) rfl (fun K hK => ?_) AllReadyH.nil
  · go_simp
    refine hK.out _ _ (by (first | with_reducible assumption | with_reducible exact PbS.below (by with_reducible assumption) (by with_reducible assumption) | with_reducible exact PbS.alloc (by with_reducible assumption) _)) (fun hHeld => ?_)
    clear hK K
    try simp only [List.setIfInBounds_toArray, List.set_cons_zero, List.set_cons_succ]
    exact wpAnyH_listed (by kernel_rfl) (HN0.out  _ (by with_reducible assumption) _ (hz0.alloc _) hl0 _ (Blk.new _ _ _) hltw (Nat.ne_of_lt hz0.lt))
set_option maxRecDepth 1000000 in
set_option maxHeartbeats 8000000 in
theorem kb1_2_n (w : World) (m : Ms) (v : Value) (Hp1 : ∀ wr, Calls Tryz.prog 99 #[.string (Str m.src)] wr fun e w' => e = .returned (.agg #[.string (Str m.src), .string (Str (preT m.src))]) ∧ Below wr.heap.size wr w') (Hp2 : ∀ wr, Calls Tryz.prog 99 #[.string (Str m.dst)] wr fun e w' => e = .returned (.agg #[.string (Str m.dst), .string (Str (preT m.dst))]) ∧ Below wr.heap.size wr w') (s3 s4 s7 s14 s15 s16 s17 s18 s19 s20 s21 s22 s23 s24 s25 s26 s27 : Value) (Q : Exit → Act → World → Prop) (hQ : ∀ (u8 u9 u10 u11 u12 u13 : Value) (b5 b6 : Nat) (wx : World), (Blk wx b5 29 #[.string (Str m.src), .string (Str (preT m.src))] ∧ Blk wx b6 29 #[.string (Str m.dst), .string (Str (preT m.dst))] ∧ b5 ≠ b6 ∧ w.heap.size < b5 ∧ w.heap.size < b6 ∧ PbS w m wx) → Q .normal ⟨#[msgV m, v, .pointer (some ⟨w.heap.size, 0, none⟩), s3, s4, .pointer (some ⟨b5, 0, none⟩), .pointer (some ⟨b6, 0, none⟩), s7, u8, u9, u10, u11, u12, u13, s14, s15, s16, s17, s18, s19, s20, s21, s22, s23, s24, s25, s26, s27], []⟩ wx)
    (s5 s6 : Value) (wx : World) (hHeld : PbS w m wx)  :
    wpAnyH Tryz.prog .any (codeOps kb1R) (NoPanic Q) (fun wr => PbS w m wr) 4 #[true, true, true, true, true, true, false, false, false, false] ⟨#[msgV m, v, .pointer (some ⟨w.heap.size, 0, none⟩), s3, s4, s5, s6, s7, .pointer (some ⟨w.heap.size, 5, none⟩), .string (Str m.src), .agg #[.string (Str m.src), .string (Str (preT m.src))], .pointer (some ⟨w.heap.size, 6, none⟩), .string (Str m.dst), .agg #[.string (Str m.dst), .string (Str (preT m.dst))], s14, s15, s16, s17, s18, s19, s20, s21, s22, s23, s24, s25, s26, s27], []⟩ wx := by
  have HN0 := Lib.hid (kb1_2_0 w m v Hp1 Hp2 s3 s4 s7 s14 s15 s16 s17 s18 s19 s20 s21 s22 s23 s24 s25 s26 s27 Q hQ)
  have HN1 := Lib.hid (kb1_2_1 w m v Hp1 Hp2 s3 s4 s7 s14 s15 s16 s17 s18 s19 s20 s21 s22 s23 s24 s25 s26 s27 Q hQ)
  clear hQ
  have hltw := hHeld.b.lt
  conv => arg 3; arg 1; whnf
  dsimp only [codeOps]
  refine wpAnyH_ready (rs := [6, 7]) (by kernel_rfl) (by simp) ?_
  refine AllReadyH.cons (o := _) rfl (fun K hK => ?_) (AllReadyH.cons (o := _) rfl (fun K hK => ?_) AllReadyH.nil)
  · go_simp
    refine hK.out _ _ (by (first | with_reducible assumption | with_reducible exact PbS.below (by with_reducible assumption) (by with_reducible assumption) | with_reducible exact PbS.alloc (by with_reducible assumption) _)) (fun hHeld => ?_)
    clear hK K
    try simp only [List.setIfInBounds_toArray, List.set_cons_zero, List.set_cons_succ]
    exact wpAnyH_listed (by kernel_rfl) (HN0.out _ _ (by with_reducible assumption) _ (Blk.new _ _ _) hltw)
  · go_simp
    refine hK.out _ _ (by (first | with_reducible assumption | with_reducible exact PbS.below (by with_reducible assumption) (by with_reducible assumption) | with_reducible exact PbS.alloc (by with_reducible assumption) _)) (fun hHeld => ?_)
    clear hK K
    try simp only [List.setIfInBounds_toArray, List.set_cons_zero, List.set_cons_succ]
    exact wpAnyH_listed (by kernel_rfl) (HN1.out _ _ (by with_reducible assumption) _ (Blk.new _ _ _) hltw)
set_option maxRecDepth 1000000 in
set_option maxHeartbeats 8000000 in
theorem kb1_1_01 (w : World) (m : Ms) (v : Value) (Hp1 : ∀ wr, Calls Tryz.prog 99 #[.string (Str m.src)] wr fun e w' => e = .returned (.agg #[.string (Str m.src), .string (Str (preT m.src))]) ∧ Below wr.heap.size wr w') (Hp2 : ∀ wr, Calls Tryz.prog 99 #[.string (Str m.dst)] wr fun e w' => e = .returned (.agg #[.string (Str m.dst), .string (Str (preT m.dst))]) ∧ Below wr.heap.size wr w') (s3 s4 s7 s14 s15 s16 s17 s18 s19 s20 s21 s22 s23 s24 s25 s26 s27 : Value) (Q : Exit → Act → World → Prop) (hQ : ∀ (u8 u9 u10 u11 u12 u13 : Value) (b5 b6 : Nat) (wx : World), (Blk wx b5 29 #[.string (Str m.src), .string (Str (preT m.src))] ∧ Blk wx b6 29 #[.string (Str m.dst), .string (Str (preT m.dst))] ∧ b5 ≠ b6 ∧ w.heap.size < b5 ∧ w.heap.size < b6 ∧ PbS w m wx) → Q .normal ⟨#[msgV m, v, .pointer (some ⟨w.heap.size, 0, none⟩), s3, s4, .pointer (some ⟨b5, 0, none⟩), .pointer (some ⟨b6, 0, none⟩), s7, u8, u9, u10, u11, u12, u13, s14, s15, s16, s17, s18, s19, s20, s21, s22, s23, s24, s25, s26, s27], []⟩ wx)
    (s13 : Value) (wx : World) (hHeld : PbS w m wx) (b5 : Nat) (hz0 : Blk wx b5 29 #[.string ⟨#[]⟩, .string ⟨#[]⟩]) (hl0 : w.heap.size < b5) (b6 : Nat) (hz1 : Blk wx b6 29 #[.string ⟨#[]⟩, .string ⟨#[]⟩]) (hl1 : w.heap.size < b6) (hn01 : b5 ≠ b6) :
    wpAnyH Tryz.prog .any (codeOps kb1R) (NoPanic Q) (fun wr => PbS w m wr) 3 #[true, true, true, true, true, false, true, true, false, false] ⟨#[msgV m, v, .pointer (some ⟨w.heap.size, 0, none⟩), s3, s4, .pointer (some ⟨b5, 0, none⟩), .pointer (some ⟨b6, 0, none⟩), s7, .pointer (some ⟨w.heap.size, 5, none⟩), .string (Str m.src), .agg #[.string (Str m.src), .string (Str (preT m.src))], .pointer (some ⟨w.heap.size, 6, none⟩), .string (Str m.dst), s13, s14, s15, s16, s17, s18, s19, s20, s21, s22, s23, s24, s25, s26, s27], []⟩ wx := by
  have HN0 := Lib.hid (kb1_2_01 w m v Hp1 Hp2 s3 s4 s7 s14 s15 s16 s17 s18 s19 s20 s21 s22 s23 s24 s25 s26 s27 Q hQ)
  clear hQ
  have hltw := hHeld.b.lt
  conv => arg 3; arg 1; whnf
  dsimp only [codeOps]
  refine wpAnyH_ready (rs := [5]) (by kernel_rfl) (by simp) ?_
  refine AllReadyH.cons (o := _) rfl (fun K hK => ?_) AllReadyH.nil
  · go_simp
    (go_at_call 99; (with_reducible refine (Hp2 _).mono ?_); rintro e x2 ⟨rfl, hb⟩)
    refine hK.out _ _ (by (first | with_reducible assumption | with_reducible exact PbS.below (by with_reducible assumption) (by with_reducible assumption) | with_reducible exact PbS.alloc (by with_reducible assumption) _)) (fun hHeld => ?_)
    clear hK K
    try simp only [List.setIfInBounds_toArray, List.set_cons_zero, List.set_cons_succ]
    exact wpAnyH_listed (by kernel_rfl) (HN0.out  _ (by with_reducible assumption) _ (hz0.below hb hz0.lt) hl0 _ (hz1.below hb hz1.lt) hl1 hn01)
set_option maxRecDepth 1000000 in
set_option maxHeartbeats 8000000 in
theorem kb1_1_1 (w : World) (m : Ms) (v : Value) (Hp1 : ∀ wr, Calls Tryz.prog 99 #[.string (Str m.src)] wr fun e w' => e = .returned (.agg #[.string (Str m.src), .string (Str (preT m.src))]) ∧ Below wr.heap.size wr w') (Hp2 : ∀ wr, Calls Tryz.prog 99 #[.string (Str m.dst)] wr fun e w' => e = .returned (.agg #[.string (Str m.dst), .string (Str (preT m.dst))]) ∧ Below wr.heap.size wr w') (s3 s4 s7 s14 s15 s16 s17 s18 s19 s20 s21 s22 s23 s24 s25 s26 s27 : Value) (Q : Exit → Act → World → Prop) (hQ : ∀ (u8 u9 u10 u11 u12 u13 : Value) (b5 b6 : Nat) (wx : World), (Blk wx b5 29 #[.string (Str m.src), .string (Str (preT m.src))] ∧ Blk wx b6 29 #[.string (Str m.dst), .string (Str (preT m.dst))] ∧ b5 ≠ b6 ∧ w.heap.size < b5 ∧ w.heap.size < b6 ∧ PbS w m wx) → Q .normal ⟨#[msgV m, v, .pointer (some ⟨w.heap.size, 0, none⟩), s3, s4, .pointer (some ⟨b5, 0, none⟩), .pointer (some ⟨b6, 0, none⟩), s7, u8, u9, u10, u11, u12, u13, s14, s15, s16, s17, s18, s19, s20, s21, s22, s23, s24, s25, s26, s27], []⟩ wx)
    (s5 s13 : Value) (wx : World) (hHeld : PbS w m wx) (b6 : Nat) (hz1 : Blk wx b6 29 #[.string ⟨#[]⟩, .string ⟨#[]⟩]) (hl1 : w.heap.size < b6) :
    wpAnyH Tryz.prog .any (codeOps kb1R) (NoPanic Q) (fun wr => PbS w m wr) 4 #[true, true, true, true, true, false, false, true, false, false] ⟨#[msgV m, v, .pointer (some ⟨w.heap.size, 0, none⟩), s3, s4, s5, .pointer (some ⟨b6, 0, none⟩), s7, .pointer (some ⟨w.heap.size, 5, none⟩), .string (Str m.src), .agg #[.string (Str m.src), .string (Str (preT m.src))], .pointer (some ⟨w.heap.size, 6, none⟩), .string (Str m.dst), s13, s14, s15, s16, s17, s18, s19, s20, s21, s22, s23, s24, s25, s26, s27], []⟩ wx := by
  have HN0 := Lib.hid (kb1_2_1 w m v Hp1 Hp2 s3 s4 s7 s14 s15 s16 s17 s18 s19 s20 s21 s22 s23 s24 s25 s26 s27 Q hQ)
  have HN1 := Lib.hid (kb1_1_01 w m v Hp1 Hp2 s3 s4 s7 s14 s15 s16 s17 s18 s19 s20 s21 s22 s23 s24 s25 s26 s27 Q hQ)
  clear hQ
  have hltw := hHeld.b.lt
  conv => arg 3; arg 1; whnf
  dsimp only [codeOps]
  refine wpAnyH_ready (rs := [5, 6]) (by kernel_rfl) (by simp) ?_
  refine AllReadyH.cons (o := _) rfl (fun K hK => ?_) (AllReadyH.cons (o := _) rfl (fun K hK => ?_) AllReadyH.nil)
  · go_simp
    (go_at_call 99; (with_reducible refine (Hp2 _).mono ?_); rintro e x2 ⟨rfl, hb⟩)
    refine hK.out _ _ (by (first | with_reducible assumption | with_reducible exact PbS.below (by with_reducible assumption) (by with_reducible assumption) | with_reducible exact PbS.alloc (by with_reducible assumption) _)) (fun hHeld => ?_)
    clear hK K
    try simp only [List.setIfInBounds_toArray, List.set_cons_zero, List.set_cons_succ]
    exact wpAnyH_listed (by kernel_rfl) (HN0.out _ _ (by with_reducible assumption) _ (hz1.below hb hz1.lt) hl1)
  · go_simp
    refine hK.out _ _ (by (first | with_reducible assumption | with_reducible exact PbS.below (by with_reducible assumption) (by with_reducible assumption) | with_reducible exact PbS.alloc (by with_reducible assumption) _)) (fun hHeld => ?_)
    clear hK K
    try simp only [List.setIfInBounds_toArray, List.set_cons_zero, List.set_cons_succ]
    exact wpAnyH_listed (by kernel_rfl) (HN1.out _ _ (by with_reducible assumption) _ (Blk.new _ _ _) hltw _ (hz1.alloc _) hl1 (Nat.ne_of_gt hz1.lt))
set_option maxRecDepth 1000000 in
set_option maxHeartbeats 8000000 in
theorem kb1_1_0 (w : World) (m : Ms) (v : Value) (Hp1 : ∀ wr, Calls Tryz.prog 99 #[.string (Str m.src)] wr fun e w' => e = .returned (.agg #[.string (Str m.src), .string (Str (preT m.src))]) ∧ Below wr.heap.size wr w') (Hp2 : ∀ wr, Calls Tryz.prog 99 #[.string (Str m.dst)] wr fun e w' => e = .returned (.agg #[.string (Str m.dst), .string (Str (preT m.dst))]) ∧ Below wr.heap.size wr w') (s3 s4 s7 s14 s15 s16 s17 s18 s19 s20 s21 s22 s23 s24 s25 s26 s27 : Value) (Q : Exit → Act → World → Prop) (hQ : ∀ (u8 u9 u10 u11 u12 u13 : Value) (b5 b6 : Nat) (wx : World), (Blk wx b5 29 #[.string (Str m.src), .string (Str (preT m.src))] ∧ Blk wx b6 29 #[.string (Str m.dst), .string (Str (preT m.dst))] ∧ b5 ≠ b6 ∧ w.heap.size < b5 ∧ w.heap.size < b6 ∧ PbS w m wx) → Q .normal ⟨#[msgV m, v, .pointer (some ⟨w.heap.size, 0, none⟩), s3, s4, .pointer (some ⟨b5, 0, none⟩), .pointer (some ⟨b6, 0, none⟩), s7, u8, u9, u10, u11, u12, u13, s14, s15, s16, s17, s18, s19, s20, s21, s22, s23, s24, s25, s26, s27], []⟩ wx)
    (s6 s13 : Value) (wx : World) (hHeld : PbS w m wx) (b5 : Nat) (hz0 : Blk wx b5 29 #[.string ⟨#[]⟩, .string ⟨#[]⟩]) (hl0 : w.heap.size < b5) :
    wpAnyH Tryz.prog .any (codeOps kb1R) (NoPanic Q) (fun wr => PbS w m wr) 4 #[true, true, true, true, true, false, true, false, false, false] ⟨#[msgV m, v, .pointer (some ⟨w.heap.size, 0, none⟩), s3, s4, .pointer (some ⟨b5, 0, none⟩), s6, s7, .pointer (some ⟨w.heap.size, 5, none⟩), .string (Str m.src), .agg #[.string (Str m.src), .string (Str (preT m.src))], .pointer (some ⟨w.heap.size, 6, none⟩), .string (Str m.dst), s13, s14, s15, s16, s17, s18, s19, s20, s21, s22, s23, s24, s25, s26, s27], []⟩ wx := by
  have HN0 := Lib.hid (kb1_2_0 w m v Hp1 Hp2 s3 s4 s7 s14 s15 s16 s17 s18 s19 s20 s21 s22 s23 s24 s25 s26 s27 Q hQ)
  have HN1 := Lib.hid (kb1_1_01 w m v Hp1 Hp2 s3 s4 s7 s14 s15 s16 s17 s18 s19 s20 s21 s22 s23 s24 s25 s26 s27 Q hQ)
  clear hQ
  have hltw := hHeld.b.lt
  conv => arg 3; arg 1; whnf
  dsimp only [codeOps]
  refine wpAnyH_ready (rs := [5, 7]) (by kernel_rfl) (by simp) ?_
  refine AllReadyH.cons (o := _) rfl (fun K hK => ?_) (AllReadyH.cons (o := _) rfl (fun K hK => ?_) AllReadyH.nil)
  · go_simp
    (go_at_call 99; (with_reducible refine (Hp2 _).mono ?_); rintro e x2 ⟨rfl, hb⟩)
    refine hK.out _ _ (by (first | with_reducible assumption | with_reducible exact PbS.below (by with_reducible assumption) (by with_reducible assumption) | with_reducible exact PbS.alloc (by with_reducible assumption) _)) (fun hHeld => ?_)
    clear hK K
    try simp only [List.setIfInBounds_toArray, List.set_cons_zero, List.set_cons_succ]
    exact wpAnyH_listed (by kernel_rfl) (HN0.out _ _ (by with_reducible assumption) _ (hz0.below hb hz0.lt) hl0)
  · go_simp
    refine hK.out _ _ (by (first | with_reducible assumption | with_reducible exact PbS.below (by with_reducible assumption) (by with_reducible assumption) | with_reducible exact PbS.alloc (by with_reducible assumption) _)) (fun hHeld => ?_)
    clear hK K
    try simp only [List.setIfInBounds_toArray, List.set_cons_zero, List.set_cons_succ]
    exact wpAnyH_listed (by kernel_rfl) (HN1.out _ _ (by with_reducible assumption) _ (hz0.alloc _) hl0 _ (Blk.new _ _ _) hltw (Nat.ne_of_lt hz0.lt))
set_option maxRecDepth 1000000 in
set_option maxHeartbeats 8000000 in
theorem kb1_1_n (w : World) (m : Ms) (v : Value) (Hp1 : ∀ wr, Calls Tryz.prog 99 #[.string (Str m.src)] wr fun e w' => e = .returned (.agg #[.string (Str m.src), .string (Str (preT m.src))]) ∧ Below wr.heap.size wr w') (Hp2 : ∀ wr, Calls Tryz.prog 99 #[.string (Str m.dst)] wr fun e w' => e = .returned (.agg #[.string (Str m.dst), .string (Str (preT m.dst))]) ∧ Below wr.heap.size wr w') (s3 s4 s7 s14 s15 s16 s17 s18 s19 s20 s21 s22 s23 s24 s25 s26 s27 : Value) (Q : Exit → Act → World → Prop) (hQ : ∀ (u8 u9 u10 u11 u12 u13 : Value) (b5 b6 : Nat) (wx : World), (Blk wx b5 29 #[.string (Str m.src), .string (Str (preT m.src))] ∧ Blk wx b6 29 #[.string (Str m.dst), .string (Str (preT m.dst))] ∧ b5 ≠ b6 ∧ w.heap.size < b5 ∧ w.heap.size < b6 ∧ PbS w m wx) → Q .normal ⟨#[msgV m, v, .pointer (some ⟨w.heap.size, 0, none⟩), s3, s4, .pointer (some ⟨b5, 0, none⟩), .pointer (some ⟨b6, 0, none⟩), s7, u8, u9, u10, u11, u12, u13, s14, s15, s16, s17, s18, s19, s20, s21, s22, s23, s24, s25, s26, s27], []⟩ wx)
    (s5 s6 s13 : Value) (wx : World) (hHeld : PbS w m wx)  :
    wpAnyH Tryz.prog .any (codeOps kb1R) (NoPanic Q) (fun wr => PbS w m wr) 5 #[true, true, true, true, true, false, false, false, false, false] ⟨#[msgV m, v, .pointer (some ⟨w.heap.size, 0, none⟩), s3, s4, s5, s6, s7, .pointer (some ⟨w.heap.size, 5, none⟩), .string (Str m.src), .agg #[.string (Str m.src), .string (Str (preT m.src))], .pointer (some ⟨w.heap.size, 6, none⟩), .string (Str m.dst), s13, s14, s15, s16, s17, s18, s19, s20, s21, s22, s23, s24, s25, s26, s27], []⟩ wx := by
  have HN0 := Lib.hid (kb1_2_n w m v Hp1 Hp2 s3 s4 s7 s14 s15 s16 s17 s18 s19 s20 s21 s22 s23 s24 s25 s26 s27 Q hQ)
  have HN1 := Lib.hid (kb1_1_0 w m v Hp1 Hp2 s3 s4 s7 s14 s15 s16 s17 s18 s19 s20 s21 s22 s23 s24 s25 s26 s27 Q hQ)
  have HN2 := Lib.hid (kb1_1_1 w m v Hp1 Hp2 s3 s4 s7 s14 s15 s16 s17 s18 s19 s20 s21 s22 s23 s24 s25 s26 s27 Q hQ)
  clear hQ
  have hltw := hHeld.b.lt
  conv => arg 3; arg 1; whnf
  dsimp only [codeOps]
  refine wpAnyH_ready (rs := [5, 6, 7]) (by kernel_rfl) (by simp) ?_
  refine AllReadyH.cons (o := _) rfl (fun K hK => ?_) (AllReadyH.cons (o := _) rfl (fun K hK => ?_) (AllReadyH.cons (o := _) rfl (fun K hK => ?_) AllReadyH.nil))
  · go_simp
    (go_at_call 99; (with_reducible refine (Hp2 _).mono ?_); rintro e x2 ⟨rfl, hb⟩)
    refine hK.out _ _ (by (first | with_reducible assumption | with_reducible exact PbS.below (by with_reducible assumption) (by with_reducible assumption) | with_reducible exact PbS.alloc (by with_reducible assumption) _)) (fun hHeld => ?_)
    clear hK K
    try simp only [List.setIfInBounds_toArray, List.set_cons_zero, List.set_cons_succ]
    exact wpAnyH_listed (by kernel_rfl) (HN0.out _ _ _ (by with_reducible assumption) )
  · go_simp
    refine hK.out _ _ (by (first | with_reducible assumption | with_reducible exact PbS.below (by with_reducible assumption) (by with_reducible assumption) | with_reducible exact PbS.alloc (by with_reducible assumption) _)) (fun hHeld => ?_)
    clear hK K
    try simp only [List.setIfInBounds_toArray, List.set_cons_zero, List.set_cons_succ]
    exact wpAnyH_listed (by kernel_rfl) (HN1.out _ _ _ (by with_reducible assumption) _ (Blk.new _ _ _) hltw)
  · go_simp
    refine hK.out _ _ (by (first | with_reducible assumption | with_reducible exact PbS.below (by with_reducible assumption) (by with_reducible assumption) | with_reducible exact PbS.alloc (by with_reducible assumption) _)) (fun hHeld => ?_)
    clear hK K
    try simp only [List.setIfInBounds_toArray, List.set_cons_zero, List.set_cons_succ]
    exact wpAnyH_listed (by kernel_rfl) (HN2.out _ _ _ (by with_reducible assumption) _ (Blk.new _ _ _) hltw)
set_option maxRecDepth 1000000 in
set_option maxHeartbeats 8000000 in
theorem kb1_0_01 (w : World) (m : Ms) (v : Value) (Hp1 : ∀ wr, Calls Tryz.prog 99 #[.string (Str m.src)] wr fun e w' => e = .returned (.agg #[.string (Str m.src), .string (Str (preT m.src))]) ∧ Below wr.heap.size wr w') (Hp2 : ∀ wr, Calls Tryz.prog 99 #[.string (Str m.dst)] wr fun e w' => e = .returned (.agg #[.string (Str m.dst), .string (Str (preT m.dst))]) ∧ Below wr.heap.size wr w') (s3 s4 s7 s14 s15 s16 s17 s18 s19 s20 s21 s22 s23 s24 s25 s26 s27 : Value) (Q : Exit → Act → World → Prop) (hQ : ∀ (u8 u9 u10 u11 u12 u13 : Value) (b5 b6 : Nat) (wx : World), (Blk wx b5 29 #[.string (Str m.src), .string (Str (preT m.src))] ∧ Blk wx b6 29 #[.string (Str m.dst), .string (Str (preT m.dst))] ∧ b5 ≠ b6 ∧ w.heap.size < b5 ∧ w.heap.size < b6 ∧ PbS w m wx) → Q .normal ⟨#[msgV m, v, .pointer (some ⟨w.heap.size, 0, none⟩), s3, s4, .pointer (some ⟨b5, 0, none⟩), .pointer (some ⟨b6, 0, none⟩), s7, u8, u9, u10, u11, u12, u13, s14, s15, s16, s17, s18, s19, s20, s21, s22, s23, s24, s25, s26, s27], []⟩ wx)
    (s10 s13 : Value) (wx : World) (hHeld : PbS w m wx) (b5 : Nat) (hz0 : Blk wx b5 29 #[.string ⟨#[]⟩, .string ⟨#[]⟩]) (hl0 : w.heap.size < b5) (b6 : Nat) (hz1 : Blk wx b6 29 #[.string ⟨#[]⟩, .string ⟨#[]⟩]) (hl1 : w.heap.size < b6) (hn01 : b5 ≠ b6) :
    wpAnyH Tryz.prog .any (codeOps kb1R) (NoPanic Q) (fun wr => PbS w m wr) 4 #[true, true, false, true, true, false, true, true, false, false] ⟨#[msgV m, v, .pointer (some ⟨w.heap.size, 0, none⟩), s3, s4, .pointer (some ⟨b5, 0, none⟩), .pointer (some ⟨b6, 0, none⟩), s7, .pointer (some ⟨w.heap.size, 5, none⟩), .string (Str m.src), s10, .pointer (some ⟨w.heap.size, 6, none⟩), .string (Str m.dst), s13, s14, s15, s16, s17, s18, s19, s20, s21, s22, s23, s24, s25, s26, s27], []⟩ wx := by
  have HN0 := Lib.hid (kb1_1_01 w m v Hp1 Hp2 s3 s4 s7 s14 s15 s16 s17 s18 s19 s20 s21 s22 s23 s24 s25 s26 s27 Q hQ)
  clear hQ
  have hltw := hHeld.b.lt
  conv => arg 3; arg 1; whnf
  dsimp only [codeOps]
  refine wpAnyH_ready (rs := [2]) (by kernel_rfl) (by simp) ?_
  refine AllReadyH.cons (o := _) rfl (fun K hK => ?_) AllReadyH.nil
  · go_simp
    (go_at_call 99; (with_reducible refine (Hp1 _).mono ?_); rintro e x2 ⟨rfl, hb⟩)
    refine hK.out _ _ (by (first | with_reducible assumption | with_reducible exact PbS.below (by with_reducible assumption) (by with_reducible assumption) | with_reducible exact PbS.alloc (by with_reducible assumption) _)) (fun hHeld => ?_)
    clear hK K
    try simp only [List.setIfInBounds_toArray, List.set_cons_zero, List.set_cons_succ]
    exact wpAnyH_listed (by kernel_rfl) (HN0.out _ _ (by with_reducible assumption) _ (hz0.below hb hz0.lt) hl0 _ (hz1.below hb hz1.lt) hl1 hn01)
set_option maxRecDepth 1000000 in
set_option maxHeartbeats 8000000 in
theorem kb1_0_1 (w : World) (m : Ms) (v : Value) (Hp1 : ∀ wr, Calls Tryz.prog 99 #[.string (Str m.src)] wr fun e w' => e = .returned (.agg #[.string (Str m.src), .string (Str (preT m.src))]) ∧ Below wr.heap.size wr w') (Hp2 : ∀ wr, Calls Tryz.prog 99 #[.string (Str m.dst)] wr fun e w' => e = .returned (.agg #[.string (Str m.dst), .string (Str (preT m.dst))]) ∧ Below wr.heap.size wr w') (s3 s4 s7 s14 s15 s16 s17 s18 s19 s20 s21 s22 s23 s24 s25 s26 s27 : Value) (Q : Exit → Act → World → Prop) (hQ : ∀ (u8 u9 u10 u11 u12 u13 : Value) (b5 b6 : Nat) (wx : World), (Blk wx b5 29 #[.string (Str m.src), .string (Str (preT m.src))] ∧ Blk wx b6 29 #[.string (Str m.dst), .string (Str (preT m.dst))] ∧ b5 ≠ b6 ∧ w.heap.size < b5 ∧ w.heap.size < b6 ∧ PbS w m wx) → Q .normal ⟨#[msgV m, v, .pointer (some ⟨w.heap.size, 0, none⟩), s3, s4, .pointer (some ⟨b5, 0, none⟩), .pointer (some ⟨b6, 0, none⟩), s7, u8, u9, u10, u11, u12, u13, s14, s15, s16, s17, s18, s19, s20, s21, s22, s23, s24, s25, s26, s27], []⟩ wx)
    (s5 s10 s13 : Value) (wx : World) (hHeld : PbS w m wx) (b6 : Nat) (hz1 : Blk wx b6 29 #[.string ⟨#[]⟩, .string ⟨#[]⟩]) (hl1 : w.heap.size < b6) :
    wpAnyH Tryz.prog .any (codeOps kb1R) (NoPanic Q) (fun wr => PbS w m wr) 5 #[true, true, false, true, true, false, false, true, false, false] ⟨#[msgV m, v, .pointer (some ⟨w.heap.size, 0, none⟩), s3, s4, s5, .pointer (some ⟨b6, 0, none⟩), s7, .pointer (some ⟨w.heap.size, 5, none⟩), .string (Str m.src), s10, .pointer (some ⟨w.heap.size, 6, none⟩), .string (Str m.dst), s13, s14, s15, s16, s17, s18, s19, s20, s21, s22, s23, s24, s25, s26, s27], []⟩ wx := by
  have HN0 := Lib.hid (kb1_1_1 w m v Hp1 Hp2 s3 s4 s7 s14 s15 s16 s17 s18 s19 s20 s21 s22 s23 s24 s25 s26 s27 Q hQ)
  have HN1 := Lib.hid (kb1_0_01 w m v Hp1 Hp2 s3 s4 s7 s14 s15 s16 s17 s18 s19 s20 s21 s22 s23 s24 s25 s26 s27 Q hQ)
  clear hQ
  have hltw := hHeld.b.lt
  conv => arg 3; arg 1; whnf
  dsimp only [codeOps]
  refine wpAnyH_ready (rs := [2, 6]) (by kernel_rfl) (by simp) ?_
  refine AllReadyH.cons (o := _) rfl (fun K hK => ?_) (AllReadyH.cons (o := _) rfl (fun K hK => ?_) AllReadyH.nil)
  · go_simp
    (go_at_call 99; (with_reducible refine (Hp1 _).mono ?_); rintro e x2 ⟨rfl, hb⟩)
    refine hK.out _ _ (by (first | with_reducible assumption | with_reducible exact PbS.below (by with_reducible assumption) (by with_reducible assumption) | with_reducible exact PbS.alloc (by with_reducible assumption) _)) (fun hHeld => ?_)
    clear hK K
    try simp only [List.setIfInBounds_toArray, List.set_cons_zero, List.set_cons_succ]
    exact wpAnyH_listed (by kernel_rfl) (HN0.out _ _ _ (by with_reducible assumption) _ (hz1.below hb hz1.lt) hl1)
  · go_simp
    refine hK.out _ _ (by (first | with_reducible assumption | with_reducible exact PbS.below (by with_reducible assumption) (by with_reducible assumption) | with_reducible exact PbS.alloc (by with_reducible assumption) _)) (fun hHeld => ?_)
    clear hK K
    try simp only [List.setIfInBounds_toArray, List.set_cons_zero, List.set_cons_succ]
    exact wpAnyH_listed (by kernel_rfl) (HN1.out _ _ _ (by with_reducible assumption) _ (Blk.new _ _ _) hltw _ (hz1.alloc _) hl1 (Nat.ne_of_gt hz1.lt))
set_option maxRecDepth 1000000 in
set_option maxHeartbeats 8000000 in
theorem kb1_0_0 (w : World) (m : Ms) (v : Value) (Hp1 : ∀ wr, Calls Tryz.prog 99 #[.string (Str m.src)] wr fun e w' => e = .returned (.agg #[.string (Str m.src), .string (Str (preT m.src))]) ∧ Below wr.heap.size wr w') (Hp2 : ∀ wr, Calls Tryz.prog 99 #[.string (Str m.dst)] wr fun e w' => e = .returned (.agg #[.string (Str m.dst), .string (Str (preT m.dst))]) ∧ Below wr.heap.size wr w') (s3 s4 s7 s14 s15 s16 s17 s18 s19 s20 s21 s22 s23 s24 s25 s26 s27 : Value) (Q : Exit → Act → World → Prop) (hQ : ∀ (u8 u9 u10 u11 u12 u13 : Value) (b5 b6 : Nat) (wx : World), (Blk wx b5 29 #[.string (Str m.src), .string (Str (preT m.src))] ∧ Blk wx b6 29 #[.string (Str m.dst), .string (Str (preT m.dst))] ∧ b5 ≠ b6 ∧ w.heap.size < b5 ∧ w.heap.size < b6 ∧ PbS w m wx) → Q .normal ⟨#[msgV m, v, .pointer (some ⟨w.heap.size, 0, none⟩), s3, s4, .pointer (some ⟨b5, 0, none⟩), .pointer (some ⟨b6, 0, none⟩), s7, u8, u9, u10, u11, u12, u13, s14, s15, s16, s17, s18, s19, s20, s21, s22, s23, s24, s25, s26, s27], []⟩ wx)
    (s6 s10 s13 : Value) (wx : World) (hHeld : PbS w m wx) (b5 : Nat) (hz0 : Blk wx b5 29 #[.string ⟨#[]⟩, .string ⟨#[]⟩]) (hl0 : w.heap.size < b5) :
    wpAnyH Tryz.prog .any (codeOps kb1R) (NoPanic Q) (fun wr => PbS w m wr) 5 #[true, true, false, true, true, false, true, false, false, false] ⟨#[msgV m, v, .pointer (some ⟨w.heap.size, 0, none⟩), s3, s4, .pointer (some ⟨b5, 0, none⟩), s6, s7, .pointer (some ⟨w.heap.size, 5, none⟩), .string (Str m.src), s10, .pointer (some ⟨w.heap.size, 6, none⟩), .string (Str m.dst), s13, s14, s15, s16, s17, s18, s19, s20, s21, s22, s23, s24, s25, s26, s27], []⟩ wx := by
  have HN0 := Lib.hid (kb1_1_0 w m v Hp1 Hp2 s3 s4 s7 s14 s15 s16 s17 s18 s19 s20 s21 s22 s23 s24 s25 s26 s27 Q hQ)
  have HN1 := Lib.hid (kb1_0_01 w m v Hp1 Hp2 s3 s4 s7 s14 s15 s16 s17 s18 s19 s20 s21 s22 s23 s24 s25 s26 s27 Q hQ)
  clear hQ
  have hltw := hHeld.b.lt
  conv => arg 3; arg 1; whnf
  dsimp only [codeOps]
  refine wpAnyH_ready (rs := [2, 7]) (by kernel_rfl) (by simp) ?_
  refine AllReadyH.cons (o := _) rfl (fun K hK => ?_) (AllReadyH.cons (o := _) rfl (fun K hK => ?_) AllReadyH.nil)
  · go_simp
    (go_at_call 99; (with_reducible refine (Hp1 _).mono ?_); rintro e x2 ⟨rfl, hb⟩)
    refine hK.out _ _ (by (first | with_reducible assumption | with_reducible exact PbS.below (by with_reducible assumption) (by with_reducible assumption) | with_reducible exact PbS.alloc (by with_reducible assumption) _)) (fun hHeld => ?_)
    clear hK K
    try simp only [List.setIfInBounds_toArray, List.set_cons_zero, List.set_cons_succ]
    exact wpAnyH_listed (by kernel_rfl) (HN0.out _ _ _ (by with_reducible assumption) _ (hz0.below hb hz0.lt) hl0)
  · go_simp
    refine hK.out _ _ (by (first | with_reducible assumption | with_reducible exact PbS.below (by with_reducible assumption) (by with_reducible assumption) | with_reducible exact PbS.alloc (by with_reducible assumption) _)) (fun hHeld => ?_)
    clear hK K
    try simp only [List.setIfInBounds_toArray, List.set_cons_zero, List.set_cons_succ]
    exact wpAnyH_listed (by kernel_rfl) (HN1.out _ _ _ (by with_reducible assumption) _ (hz0.alloc _) hl0 _ (Blk.new _ _ _) hltw (Nat.ne_of_lt hz0.lt))
set_option maxRecDepth 1000000 in
set_option maxHeartbeats 8000000 in
theorem kb1_0_n (w : World) (m : Ms) (v : Value) (Hp1 : ∀ wr, Calls Tryz.prog 99 #[.string (Str m.src)] wr fun e w' => e = .returned (.agg #[.string (Str m.src), .string (Str (preT m.src))]) ∧ Below wr.heap.size wr w') (Hp2 : ∀ wr, Calls Tryz.prog 99 #[.string (Str m.dst)] wr fun e w' => e = .returned (.agg #[.string (Str m.dst), .string (Str (preT m.dst))]) ∧ Below wr.heap.size wr w') (s3 s4 s7 s14 s15 s16 s17 s18 s19 s20 s21 s22 s23 s24 s25 s26 s27 : Value) (Q : Exit → Act → World → Prop) (hQ : ∀ (u8 u9 u10 u11 u12 u13 : Value) (b5 b6 : Nat) (wx : World), (Blk wx b5 29 #[.string (Str m.src), .string (Str (preT m.src))] ∧ Blk wx b6 29 #[.string (Str m.dst), .string (Str (preT m.dst))] ∧ b5 ≠ b6 ∧ w.heap.size < b5 ∧ w.heap.size < b6 ∧ PbS w m wx) → Q .normal ⟨#[msgV m, v, .pointer (some ⟨w.heap.size, 0, none⟩), s3, s4, .pointer (some ⟨b5, 0, none⟩), .pointer (some ⟨b6, 0, none⟩), s7, u8, u9, u10, u11, u12, u13, s14, s15, s16, s17, s18, s19, s20, s21, s22, s23, s24, s25, s26, s27], []⟩ wx)
    (s5 s6 s10 s13 : Value) (wx : World) (hHeld : PbS w m wx)  :
    wpAnyH Tryz.prog .any (codeOps kb1R) (NoPanic Q) (fun wr => PbS w m wr) 6 #[true, true, false, true, true, false, false, false, false, false] ⟨#[msgV m, v, .pointer (some ⟨w.heap.size, 0, none⟩), s3, s4, s5, s6, s7, .pointer (some ⟨w.heap.size, 5, none⟩), .string (Str m.src), s10, .pointer (some ⟨w.heap.size, 6, none⟩), .string (Str m.dst), s13, s14, s15, s16, s17, s18, s19, s20, s21, s22, s23, s24, s25, s26, s27], []⟩ wx := by
  have HN0 := Lib.hid (kb1_1_n w m v Hp1 Hp2 s3 s4 s7 s14 s15 s16 s17 s18 s19 s20 s21 s22 s23 s24 s25 s26 s27 Q hQ)
  have HN1 := Lib.hid (kb1_0_0 w m v Hp1 Hp2 s3 s4 s7 s14 s15 s16 s17 s18 s19 s20 s21 s22 s23 s24 s25 s26 s27 Q hQ)
  have HN2 := Lib.hid (kb1_0_1 w m v Hp1 Hp2 s3 s4 s7 s14 s15 s16 s17 s18 s19 s20 s21 s22 s23 s24 s25 s26 s27 Q hQ)
  clear hQ
  have hltw := hHeld.b.lt
  conv => arg 3; arg 1; whnf
  dsimp only [codeOps]
  refine wpAnyH_ready (rs := [2, 6, 7]) (by kernel_rfl) (by simp) ?_
  refine AllReadyH.cons (o := _) rfl (fun K hK => ?_) (AllReadyH.cons (o := _) rfl (fun K hK => ?_) (AllReadyH.cons (o := _) rfl (fun K hK => ?_) AllReadyH.nil))
  · go_simp
    (go_at_call 99; (with_reducible refine (Hp1 _).mono ?_); rintro e x2 ⟨rfl, hb⟩)
    refine hK.out _ _ (by (first | with_reducible assumption | with_reducible exact PbS.below (by with_reducible assumption) (by with_reducible assumption) | with_reducible exact PbS.alloc (by with_reducible assumption) _)) (fun hHeld => ?_)
    clear hK K
    try simp only [List.setIfInBounds_toArray, List.set_cons_zero, List.set_cons_succ]
    exact wpAnyH_listed (by kernel_rfl) (HN0.out _ _ _ _ (by with_reducible assumption) )
  · go_simp
    refine hK.out _ _ (by (first | with_reducible assumption | with_reducible exact PbS.below (by with_reducible assumption) (by with_reducible assumption) | with_reducible exact PbS.alloc (by with_reducible assumption) _)) (fun hHeld => ?_)
    clear hK K
    try simp only [List.setIfInBounds_toArray, List.set_cons_zero, List.set_cons_succ]
    exact wpAnyH_listed (by kernel_rfl) (HN1.out _ _ _ _ (by with_reducible assumption) _ (Blk.new _ _ _) hltw)
  · go_simp
    refine hK.out _ _ (by (first | with_reducible assumption | with_reducible exact PbS.below (by with_reducible assumption) (by with_reducible assumption) | with_reducible exact PbS.alloc (by with_reducible assumption) _)) (fun hHeld => ?_)
    clear hK K
    try simp only [List.setIfInBounds_toArray, List.set_cons_zero, List.set_cons_succ]
    exact wpAnyH_listed (by kernel_rfl) (HN2.out _ _ _ _ (by with_reducible assumption) _ (Blk.new _ _ _) hltw)
set_option maxRecDepth 1000000 in
set_option maxHeartbeats 8000000 in
theorem kb1_s (w : World) (m : Ms) (v : Value) (Hp1 : ∀ wr, Calls Tryz.prog 99 #[.string (Str m.src)] wr fun e w' => e = .returned (.agg #[.string (Str m.src), .string (Str (preT m.src))]) ∧ Below wr.heap.size wr w') (Hp2 : ∀ wr, Calls Tryz.prog 99 #[.string (Str m.dst)] wr fun e w' => e = .returned (.agg #[.string (Str m.dst), .string (Str (preT m.dst))]) ∧ Below wr.heap.size wr w') (s3 s4 s7 s14 s15 s16 s17 s18 s19 s20 s21 s22 s23 s24 s25 s26 s27 : Value) (Q : Exit → Act → World → Prop) (hQ : ∀ (u8 u9 u10 u11 u12 u13 : Value) (b5 b6 : Nat) (wx : World), (Blk wx b5 29 #[.string (Str m.src), .string (Str (preT m.src))] ∧ Blk wx b6 29 #[.string (Str m.dst), .string (Str (preT m.dst))] ∧ b5 ≠ b6 ∧ w.heap.size < b5 ∧ w.heap.size < b6 ∧ PbS w m wx) → Q .normal ⟨#[msgV m, v, .pointer (some ⟨w.heap.size, 0, none⟩), s3, s4, .pointer (some ⟨b5, 0, none⟩), .pointer (some ⟨b6, 0, none⟩), s7, u8, u9, u10, u11, u12, u13, s14, s15, s16, s17, s18, s19, s20, s21, s22, s23, s24, s25, s26, s27], []⟩ wx)
    (s5 s6 s8 s9 s10 s11 s12 s13 : Value) (wx : World) (hHeld : PbS w m wx)  :
    wpAnyH Tryz.prog .any (codeOps kb1R) (NoPanic Q) (fun wr => PbS w m wr) 10 #[false, false, false, false, false, false, false, false, false, false] ⟨#[msgV m, v, .pointer (some ⟨w.heap.size, 0, none⟩), s3, s4, s5, s6, s7, s8, s9, s10, s11, s12, s13, s14, s15, s16, s17, s18, s19, s20, s21, s22, s23, s24, s25, s26, s27], []⟩ wx := by
  have HN0 := Lib.hid (kb1_0_n w m v Hp1 Hp2 s3 s4 s7 s14 s15 s16 s17 s18 s19 s20 s21 s22 s23 s24 s25 s26 s27 Q hQ)
  clear hQ
  conv => arg 3; arg 1; whnf
  dsimp only [codeOps]
  have q5 : ∀ wr, PbS w m wr → wr.cell? ⟨w.heap.size, 5, none⟩ = some (.string (Str m.src)) := fun wr h => h.b.c0 5 _ rfl
  have q6 : ∀ wr, PbS w m wr → wr.cell? ⟨w.heap.size, 6, none⟩ = some (.string (Str m.dst)) := fun wr h => h.b.c0 6 _ rfl
  refine wpAnyH_take (i := 0) (oi := _) (v := ?_) rfl (by kernel_rfl) (by kernel_rfl) (by kernel_rfl) (fun _ _ _ h => h) (Or.inl ⟨by rfl, ?_⟩) (by with_reducible assumption) ?_
  rotate_left
  · intro wt hSw
    go_simp
    all_goals with_reducible rfl
  try simp only [Act.put, List.setIfInBounds_toArray, List.set_cons_zero]
  refine wpAnyH_take (i := 1) (oi := _) (v := ?_) rfl (by kernel_rfl) (by kernel_rfl) (by kernel_rfl) (fun _ _ _ h => h) (Or.inl ⟨by rfl, ?_⟩) (by with_reducible assumption) ?_
  rotate_left
  · intro wt hSw
    go_simp
    all_goals with_reducible rfl
  try simp only [Act.put, List.setIfInBounds_toArray, List.set_cons_zero, List.set_cons_succ]
  refine wpAnyH_take (i := 3) (oi := _) (v := ?_) rfl (by kernel_rfl) (by kernel_rfl) (by kernel_rfl) (fun _ _ _ h => h) (Or.inl ⟨by rfl, ?_⟩) (by with_reducible assumption) ?_
  rotate_left
  · intro wt hSw
    go_simp
    all_goals with_reducible rfl
  try simp only [Act.put, List.setIfInBounds_toArray, List.set_cons_zero, List.set_cons_succ]
  refine wpAnyH_take (i := 4) (oi := _) (v := ?_) rfl (by kernel_rfl) (by kernel_rfl) (by kernel_rfl) (fun _ _ _ h => h) (Or.inl ⟨by rfl, ?_⟩) (by with_reducible assumption) ?_
  rotate_left
  · intro wt hSw
    go_simp
    all_goals with_reducible rfl
  try simp only [Act.put, List.setIfInBounds_toArray, List.set_cons_zero, List.set_cons_succ]
  exact wpAnyH_listed (by kernel_rfl) (HN0.out _ _ _ _ _ (by with_reducible assumption))
set_option maxRecDepth 1000000 in
set_option maxHeartbeats 8000000 in
theorem kb1_w (w : World) (m : Ms) (v : Value) (Hp1 : ∀ wr, Calls Tryz.prog 99 #[.string (Str m.src)] wr fun e w' => e = .returned (.agg #[.string (Str m.src), .string (Str (preT m.src))]) ∧ Below wr.heap.size wr w') (Hp2 : ∀ wr, Calls Tryz.prog 99 #[.string (Str m.dst)] wr fun e w' => e = .returned (.agg #[.string (Str m.dst), .string (Str (preT m.dst))]) ∧ Below wr.heap.size wr w') (wa : World) (hS : PbS w m wa) (s3 s4 s5 s6 s7 s8 s9 s10 s11 s12 s13 s14 s15 s16 s17 s18 s19 s20 s21 s22 s23 s24 s25 s26 s27 : Value) (Q : Exit → Act → World → Prop)
    (hQ : ∀ (u8 u9 u10 u11 u12 u13 : Value) (b5 b6 : Nat) (wx : World), (Blk wx b5 29 #[.string (Str m.src), .string (Str (preT m.src))] ∧ Blk wx b6 29 #[.string (Str m.dst), .string (Str (preT m.dst))] ∧ b5 ≠ b6 ∧ w.heap.size < b5 ∧ w.heap.size < b6 ∧ PbS w m wx) → Q .normal ⟨#[msgV m, v, .pointer (some ⟨w.heap.size, 0, none⟩), s3, s4, .pointer (some ⟨b5, 0, none⟩), .pointer (some ⟨b6, 0, none⟩), s7, u8, u9, u10, u11, u12, u13, s14, s15, s16, s17, s18, s19, s20, s21, s22, s23, s24, s25, s26, s27], []⟩ wx) :
    kb1R.wp Tryz.prog Q ⟨#[msgV m, v, .pointer (some ⟨w.heap.size, 0, none⟩), s3, s4, s5, s6, s7, s8, s9, s10, s11, s12, s13, s14, s15, s16, s17, s18, s19, s20, s21, s22, s23, s24, s25, s26, s27], []⟩ wa := by
  have h0 := kb1_s w m v Hp1 Hp2 s3 s4 s7 s14 s15 s16 s17 s18 s19 s20 s21 s22 s23 s24 s25 s26 s27 Q hQ
  conv => arg 2; whnf
  refine wp_region_noPanic ?_
  refine wp_region_held_drew (S := fun wr => PbS w m wr) (by kernel_rfl) (hS.drew) (fun hHeld => ?_)
  exact wpAnyH_listed (by kernel_rfl) (h0 _ _ _ _ _ _ _ _ _ hHeld)

end Go.Proofs.YthncnijkgkeohaaGreat
