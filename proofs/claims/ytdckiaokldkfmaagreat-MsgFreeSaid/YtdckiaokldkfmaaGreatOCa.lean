/-
  Walks: region 2 of the law MsgFree, one lemma a state.
-/
import Derived.Test.YtdckiaokldkfmaaGreatNT
import Derived.Test.YtdckiaokldkfmaaGreatNJ
namespace Go.Proofs.YtdckiaokldkfmaaGreat
open Go.RowKit Go.Sort
set_option linter.unusedVariables false

/-- Two raw messages' block. -/
structure Bx12 (w : World) (a1 a2 a3 a4 a5 a6 g1 g2 g3 g4 g5 g6 : Nat) (wr : World) : Prop where
  b : Blk wr w.heap.size 57 #[.int .u8 a1, .int .u8 a2, .int .u8 a3, .int .u8 a4, .int .u8 a5, .int .u8 a6, .int .u8 g1, .int .u8 g2, .int .u8 g3, .int .u8 g4, .int .u8 g5, .int .u8 g6]
  g : Below w.heap.size w wr
section
variable {w wx wy : World} {a1 a2 a3 a4 a5 a6 g1 g2 g3 g4 g5 g6 : Nat}
theorem Bx12.below (h : Bx12 w a1 a2 a3 a4 a5 a6 g1 g2 g3 g4 g5 g6 wx) (hb : Below wx.heap.size wx wy) : Bx12 w a1 a2 a3 a4 a5 a6 g1 g2 g3 g4 g5 g6 wy := ⟨h.b.below hb h.b.lt, h.g.trans (hb.mono h.g.size)⟩
theorem Bx12.drew (h : Bx12 w a1 a2 a3 a4 a5 a6 g1 g2 g3 g4 g5 g6 wx) : Bx12 w a1 a2 a3 a4 a5 a6 g1 g2 g3 g4 g5 g6 wx.drew := h.below (below_drewN wx 1)
theorem Bx12.alloc (h : Bx12 w a1 a2 a3 a4 a5 a6 g1 g2 g3 g4 g5 g6 wx) (o : Obj) : Bx12 w a1 a2 a3 a4 a5 a6 g1 g2 g3 g4 g5 g6 (wx.alloc o) := h.below (below_box _)
theorem Bx12.st8 (h : Bx12 w a1 a2 a3 a4 a5 a6 g1 g2 g3 g4 g5 g6 wx) (n : Nat) (hn : w.heap.size < n) (m : Ms) : Bx12 w a1 a2 a3 a4 a5 a6 g1 g2 g3 g4 g5 g6 (st8 wx n m) := ⟨h.b.other8 (Nat.ne_of_lt hn) _, below_st8 h.g (Nat.le_of_lt hn) _⟩
end
noncomputable def fr2R : Code := ((Tryz.f7.body.bind (codeReg 2)).getD .skip)
set_option maxRecDepth 1000000 in
set_option maxHeartbeats 8000000 in
theorem fr2_3_01 (w : World) (v0 : Value) (a1 a2 a3 a4 a5 a6 g1 g2 g3 g4 g5 g6 : Nat) (T : List Pr) (m o : Ms) (Htb : ∀ wr, Bx12 w a1 a2 a3 a4 a5 a6 g1 g2 g3 g4 g5 g6 wr → Calls Tryz.prog 13 #[v0, .int .i64 12] wr (MOut wr T)) (Hm1 : ∀ wr, Calls Tryz.prog 29 #[.agg #[.int .u8 a1, .int .u8 a2, .int .u8 a3, .int .u8 a4, .int .u8 a5, .int .u8 a6]] wr fun e w' => e = .returned (msgV m) ∧ Below wr.heap.size wr w') (Hm2 : ∀ wr, Calls Tryz.prog 29 #[.agg #[.int .u8 g1, .int .u8 g2, .int .u8 g3, .int .u8 g4, .int .u8 g5, .int .u8 g6]] wr fun e w' => e = .returned (msgV o) ∧ Below wr.heap.size wr w') (s1 s2 s9 s18 s19 s20 s21 s22 s23 s24 s25 s26 s27 s28 s29 s30 s31 s32 s33 s34 s35 s36 s37 s38 s39 s40 s41 s42 s43 s44 : Value) (Q : Exit → Act → World → Prop) (hQ : ∀ (u10 u11 u12 u13 u14 u15 u16 u17 : Value) (p : Option Addr) (c : Nat) (b7 b8 : Nat) (wx : World), Lw w [(.slice p T.length c, T)] [(b8, o), (b7, m)] [] wx → Q .normal ⟨#[v0, s1, s2, .pointer (some ⟨w.heap.size, 0, none⟩), .bool false, .bool true, .slice p T.length c, .pointer (some ⟨b7, 0, none⟩), .pointer (some ⟨b8, 0, none⟩), s9, u10, u11, u12, u13, u14, u15, u16, u17, s18, s19, s20, s21, s22, s23, s24, s25, s26, s27, s28, s29, s30, s31, s32, s33, s34, s35, s36, s37, s38, s39, s40, s41, s42, s43, s44], []⟩ wx)
    (s6 : Value) (wx : World) (hHeld : Bx12 w a1 a2 a3 a4 a5 a6 g1 g2 g3 g4 g5 g6 wx) (p : Option Addr) (c : Nat) (hp : IsPairs wx (.slice p T.length c) T) (b7 : Nat) (hz0 : Blk wx b7 34 #[.int .i64 0, .string ⟨#[]⟩, .string ⟨#[]⟩, .string ⟨#[]⟩, .string ⟨#[]⟩, .string ⟨#[]⟩, .string ⟨#[]⟩, .int .i64 0]) (hl0 : w.heap.size < b7) (ho0 : OffB b7 p T) (b8 : Nat) (hz1 : Blk wx b8 34 #[.int .i64 0, .string ⟨#[]⟩, .string ⟨#[]⟩, .string ⟨#[]⟩, .string ⟨#[]⟩, .string ⟨#[]⟩, .string ⟨#[]⟩, .int .i64 0]) (hl1 : w.heap.size < b8) (ho1 : OffB b8 p T) (hn01 : b7 ≠ b8) :
    wpAnyH Tryz.prog .any (codeOps fr2R) (NoPanic Q) (fun wr => Bx12 w a1 a2 a3 a4 a5 a6 g1 g2 g3 g4 g5 g6 wr) 3 #[true, true, true, true, true, true, true, true, true, true, false, false, false] ⟨#[v0, s1, s2, .pointer (some ⟨w.heap.size, 0, none⟩), .bool false, .bool true, s6, .pointer (some ⟨b7, 0, none⟩), .pointer (some ⟨b8, 0, none⟩), s9, v0, .slice p T.length c, .pointer (some ⟨w.heap.size, 0, none⟩), .agg #[.int .u8 a1, .int .u8 a2, .int .u8 a3, .int .u8 a4, .int .u8 a5, .int .u8 a6], msgV m, .pointer (some ⟨w.heap.size, 6, none⟩), .agg #[.int .u8 g1, .int .u8 g2, .int .u8 g3, .int .u8 g4, .int .u8 g5, .int .u8 g6], msgV o, s18, s19, s20, s21, s22, s23, s24, s25, s26, s27, s28, s29, s30, s31, s32, s33, s34, s35, s36, s37, s38, s39, s40, s41, s42, s43, s44], []⟩ wx := by
  have HQ := Lib.hid hQ
  clear hQ
  conv => arg 3; arg 1; whnf
  dsimp only [codeOps]
  refine wpAnyH_take (i := 10) (oi := _) (v := ?_) rfl (by kernel_rfl) (by kernel_rfl) (by kernel_rfl) (fun _ _ _ h => h) (Or.inl ⟨by rfl, ?_⟩) (by with_reducible assumption) ?_
  rotate_left
  · intro wt hSw
    go_simp
    all_goals with_reducible rfl
  try simp only [Act.put, List.setIfInBounds_toArray, List.set_cons_zero, List.set_cons_succ]
  have hLw : Lw w [(.slice p T.length c, T)] [] [] wx := ⟨hHeld.g, (fun x hx => by rw [List.mem_singleton.1 hx]; exact hp), (fun x hx => by cases hx), (fun x hx => by cases hx)⟩
  have d0 := hz0.c0 0 _ rfl
  have g0 := hz0.free 0
  have d1 := hz0.c0 1 _ rfl
  have g1 := hz0.free 1
  have d2 := hz0.c0 2 _ rfl
  have g2 := hz0.free 2
  have d3 := hz0.c0 3 _ rfl
  have g3 := hz0.free 3
  have d4 := hz0.c0 4 _ rfl
  have g4 := hz0.free 4
  have d5 := hz0.c0 5 _ rfl
  have g5 := hz0.free 5
  have d6 := hz0.c0 6 _ rfl
  have g6 := hz0.free 6
  have d7 := hz0.c0 7 _ rfl
  have g7 := hz0.free 7
  refine wpAnyH_ready (rs := [11]) (by kernel_rfl) (by simp) ?_
  refine AllReadyH.cons (o := _) rfl (fun K hK => ?_) AllReadyH.nil
  go_simp
  clear d0 g0 d1 g1 d2 g2 d3 g3 d4 g4 d5 g5 d6 g6 d7 g7
  refine hK.out _ _ (by with_reducible exact Bx12.st8 (by with_reducible assumption) b7 hl0 m) (fun hHeld => ?_)
  clear hK K
  try simp only [List.setIfInBounds_toArray, List.set_cons_zero, List.set_cons_succ]
  have hp : IsPairs ((((((((wx.setCell ⟨b7, 0, none⟩ (.int .i64 m.kind)).setCell ⟨b7, 1, none⟩ (.string (Str m.key))).setCell ⟨b7, 2, none⟩ (.string (Str m.val))).setCell ⟨b7, 3, none⟩ (.string (Str m.lo))).setCell ⟨b7, 4, none⟩ (.string (Str m.hi))).setCell ⟨b7, 5, none⟩ (.string (Str m.src))).setCell ⟨b7, 6, none⟩ (.string (Str m.dst))).setCell ⟨b7, 7, none⟩ (.int .i64 m.n)) _ _ := hp.st8 ho0 m
  have hm0 : MBlk ((((((((wx.setCell ⟨b7, 0, none⟩ (.int .i64 m.kind)).setCell ⟨b7, 1, none⟩ (.string (Str m.key))).setCell ⟨b7, 2, none⟩ (.string (Str m.val))).setCell ⟨b7, 3, none⟩ (.string (Str m.lo))).setCell ⟨b7, 4, none⟩ (.string (Str m.hi))).setCell ⟨b7, 5, none⟩ (.string (Str m.src))).setCell ⟨b7, 6, none⟩ (.string (Str m.dst))).setCell ⟨b7, 7, none⟩ (.int .i64 m.n)) _ _ := MBlk.st8 (m0 := zeroM 0) hz0 m
  have hz1 : Blk ((((((((wx.setCell ⟨b7, 0, none⟩ (.int .i64 m.kind)).setCell ⟨b7, 1, none⟩ (.string (Str m.key))).setCell ⟨b7, 2, none⟩ (.string (Str m.val))).setCell ⟨b7, 3, none⟩ (.string (Str m.lo))).setCell ⟨b7, 4, none⟩ (.string (Str m.hi))).setCell ⟨b7, 5, none⟩ (.string (Str m.src))).setCell ⟨b7, 6, none⟩ (.string (Str m.dst))).setCell ⟨b7, 7, none⟩ (.int .i64 m.n)) _ _ _ := Blk.other8 hz1 hn01.symm m
  clear hLw hz0
  generalize (((((((wx.setCell ⟨b7, 0, none⟩ (.int .i64 m.kind)).setCell ⟨b7, 1, none⟩ (.string (Str m.key))).setCell ⟨b7, 2, none⟩ (.string (Str m.val))).setCell ⟨b7, 3, none⟩ (.string (Str m.lo))).setCell ⟨b7, 4, none⟩ (.string (Str m.hi))).setCell ⟨b7, 5, none⟩ (.string (Str m.src))).setCell ⟨b7, 6, none⟩ (.string (Str m.dst))).setCell ⟨b7, 7, none⟩ (.int .i64 m.n) = wy0 at *
  have d0 := hz1.c0 0 _ rfl
  have g0 := hz1.free 0
  have d1 := hz1.c0 1 _ rfl
  have g1 := hz1.free 1
  have d2 := hz1.c0 2 _ rfl
  have g2 := hz1.free 2
  have d3 := hz1.c0 3 _ rfl
  have g3 := hz1.free 3
  have d4 := hz1.c0 4 _ rfl
  have g4 := hz1.free 4
  have d5 := hz1.c0 5 _ rfl
  have g5 := hz1.free 5
  have d6 := hz1.c0 6 _ rfl
  have g6 := hz1.free 6
  have d7 := hz1.c0 7 _ rfl
  have g7 := hz1.free 7
  refine wpAnyH_ready (rs := [12]) (by kernel_rfl) (by simp) ?_
  refine AllReadyH.cons (o := _) rfl (fun K hK => ?_) AllReadyH.nil
  go_simp
  clear d0 g0 d1 g1 d2 g2 d3 g3 d4 g4 d5 g5 d6 g6 d7 g7
  refine hK.out _ _ (by with_reducible exact Bx12.st8 (by with_reducible assumption) b8 hl1 o) (fun hHeld => ?_)
  clear hK K
  try simp only [List.setIfInBounds_toArray, List.set_cons_zero, List.set_cons_succ]
  have hp : IsPairs ((((((((wy0.setCell ⟨b8, 0, none⟩ (.int .i64 o.kind)).setCell ⟨b8, 1, none⟩ (.string (Str o.key))).setCell ⟨b8, 2, none⟩ (.string (Str o.val))).setCell ⟨b8, 3, none⟩ (.string (Str o.lo))).setCell ⟨b8, 4, none⟩ (.string (Str o.hi))).setCell ⟨b8, 5, none⟩ (.string (Str o.src))).setCell ⟨b8, 6, none⟩ (.string (Str o.dst))).setCell ⟨b8, 7, none⟩ (.int .i64 o.n)) _ _ := hp.st8 ho1 o
  have hm0 : MBlk ((((((((wy0.setCell ⟨b8, 0, none⟩ (.int .i64 o.kind)).setCell ⟨b8, 1, none⟩ (.string (Str o.key))).setCell ⟨b8, 2, none⟩ (.string (Str o.val))).setCell ⟨b8, 3, none⟩ (.string (Str o.lo))).setCell ⟨b8, 4, none⟩ (.string (Str o.hi))).setCell ⟨b8, 5, none⟩ (.string (Str o.src))).setCell ⟨b8, 6, none⟩ (.string (Str o.dst))).setCell ⟨b8, 7, none⟩ (.int .i64 o.n)) _ _ := Blk.other8 hm0 hn01 o
  have hm1 : MBlk ((((((((wy0.setCell ⟨b8, 0, none⟩ (.int .i64 o.kind)).setCell ⟨b8, 1, none⟩ (.string (Str o.key))).setCell ⟨b8, 2, none⟩ (.string (Str o.val))).setCell ⟨b8, 3, none⟩ (.string (Str o.lo))).setCell ⟨b8, 4, none⟩ (.string (Str o.hi))).setCell ⟨b8, 5, none⟩ (.string (Str o.src))).setCell ⟨b8, 6, none⟩ (.string (Str o.dst))).setCell ⟨b8, 7, none⟩ (.int .i64 o.n)) _ _ := MBlk.st8 (m0 := zeroM 0) hz1 o
  clear hz1
  generalize (((((((wy0.setCell ⟨b8, 0, none⟩ (.int .i64 o.kind)).setCell ⟨b8, 1, none⟩ (.string (Str o.key))).setCell ⟨b8, 2, none⟩ (.string (Str o.val))).setCell ⟨b8, 3, none⟩ (.string (Str o.lo))).setCell ⟨b8, 4, none⟩ (.string (Str o.hi))).setCell ⟨b8, 5, none⟩ (.string (Str o.src))).setCell ⟨b8, 6, none⟩ (.string (Str o.dst))).setCell ⟨b8, 7, none⟩ (.int .i64 o.n) = wy1 at *
  refine wpAnyH_done (by kernel_rfl) (NoPanic.normal (HQ.out _ _ _ _ _ _ _ _ p c b7 b8 _ ?_)) _
  exact ⟨hHeld.g, (fun x hx => by rw [List.mem_singleton.1 hx]; exact hp), (fun x hx => by simp only [List.mem_cons, List.not_mem_nil, or_false] at hx; rcases hx with rfl | rfl <;> assumption), (fun x hx => by cases hx)⟩
set_option maxRecDepth 1000000 in
set_option maxHeartbeats 8000000 in
theorem fr2_3_1 (w : World) (v0 : Value) (a1 a2 a3 a4 a5 a6 g1 g2 g3 g4 g5 g6 : Nat) (T : List Pr) (m o : Ms) (Htb : ∀ wr, Bx12 w a1 a2 a3 a4 a5 a6 g1 g2 g3 g4 g5 g6 wr → Calls Tryz.prog 13 #[v0, .int .i64 12] wr (MOut wr T)) (Hm1 : ∀ wr, Calls Tryz.prog 29 #[.agg #[.int .u8 a1, .int .u8 a2, .int .u8 a3, .int .u8 a4, .int .u8 a5, .int .u8 a6]] wr fun e w' => e = .returned (msgV m) ∧ Below wr.heap.size wr w') (Hm2 : ∀ wr, Calls Tryz.prog 29 #[.agg #[.int .u8 g1, .int .u8 g2, .int .u8 g3, .int .u8 g4, .int .u8 g5, .int .u8 g6]] wr fun e w' => e = .returned (msgV o) ∧ Below wr.heap.size wr w') (s1 s2 s9 s18 s19 s20 s21 s22 s23 s24 s25 s26 s27 s28 s29 s30 s31 s32 s33 s34 s35 s36 s37 s38 s39 s40 s41 s42 s43 s44 : Value) (Q : Exit → Act → World → Prop) (hQ : ∀ (u10 u11 u12 u13 u14 u15 u16 u17 : Value) (p : Option Addr) (c : Nat) (b7 b8 : Nat) (wx : World), Lw w [(.slice p T.length c, T)] [(b8, o), (b7, m)] [] wx → Q .normal ⟨#[v0, s1, s2, .pointer (some ⟨w.heap.size, 0, none⟩), .bool false, .bool true, .slice p T.length c, .pointer (some ⟨b7, 0, none⟩), .pointer (some ⟨b8, 0, none⟩), s9, u10, u11, u12, u13, u14, u15, u16, u17, s18, s19, s20, s21, s22, s23, s24, s25, s26, s27, s28, s29, s30, s31, s32, s33, s34, s35, s36, s37, s38, s39, s40, s41, s42, s43, s44], []⟩ wx)
    (s6 s7 : Value) (wx : World) (hHeld : Bx12 w a1 a2 a3 a4 a5 a6 g1 g2 g3 g4 g5 g6 wx) (p : Option Addr) (c : Nat) (hp : IsPairs wx (.slice p T.length c) T) (b8 : Nat) (hz1 : Blk wx b8 34 #[.int .i64 0, .string ⟨#[]⟩, .string ⟨#[]⟩, .string ⟨#[]⟩, .string ⟨#[]⟩, .string ⟨#[]⟩, .string ⟨#[]⟩, .int .i64 0]) (hl1 : w.heap.size < b8) (ho1 : OffB b8 p T) :
    wpAnyH Tryz.prog .any (codeOps fr2R) (NoPanic Q) (fun wr => Bx12 w a1 a2 a3 a4 a5 a6 g1 g2 g3 g4 g5 g6 wr) 4 #[true, true, true, true, true, true, true, true, false, true, false, false, false] ⟨#[v0, s1, s2, .pointer (some ⟨w.heap.size, 0, none⟩), .bool false, .bool true, s6, s7, .pointer (some ⟨b8, 0, none⟩), s9, v0, .slice p T.length c, .pointer (some ⟨w.heap.size, 0, none⟩), .agg #[.int .u8 a1, .int .u8 a2, .int .u8 a3, .int .u8 a4, .int .u8 a5, .int .u8 a6], msgV m, .pointer (some ⟨w.heap.size, 6, none⟩), .agg #[.int .u8 g1, .int .u8 g2, .int .u8 g3, .int .u8 g4, .int .u8 g5, .int .u8 g6], msgV o, s18, s19, s20, s21, s22, s23, s24, s25, s26, s27, s28, s29, s30, s31, s32, s33, s34, s35, s36, s37, s38, s39, s40, s41, s42, s43, s44], []⟩ wx := by
  have HN0 := Lib.hid (fr2_3_01 w v0 a1 a2 a3 a4 a5 a6 g1 g2 g3 g4 g5 g6 T m o Htb Hm1 Hm2 s1 s2 s9 s18 s19 s20 s21 s22 s23 s24 s25 s26 s27 s28 s29 s30 s31 s32 s33 s34 s35 s36 s37 s38 s39 s40 s41 s42 s43 s44 Q hQ)
  clear hQ
  have hltw := hHeld.b.lt
  conv => arg 3; arg 1; whnf
  dsimp only [codeOps]
  refine wpAnyH_ready (rs := [8]) (by kernel_rfl) (by simp) ?_
  refine AllReadyH.cons (o := _) rfl (fun K hK => ?_) AllReadyH.nil
  · go_simp
    refine hK.out _ _ (by (first | with_reducible assumption | with_reducible exact Bx12.below (by with_reducible assumption) (by with_reducible assumption) | with_reducible exact Bx12.alloc (by with_reducible assumption) _)) (fun hHeld => ?_)
    clear hK K
    try simp only [List.setIfInBounds_toArray, List.set_cons_zero, List.set_cons_succ]
    exact wpAnyH_listed (by kernel_rfl) (HN0.out _ _ (by with_reducible assumption) p c (hp.alloc _) _ (Blk.new _ _ _) hltw (hp.off_size (Nat.le_refl _)) _ (hz1.alloc _) hl1 ho1 (Nat.ne_of_gt hz1.lt))
set_option maxRecDepth 1000000 in
set_option maxHeartbeats 8000000 in
theorem fr2_3_0 (w : World) (v0 : Value) (a1 a2 a3 a4 a5 a6 g1 g2 g3 g4 g5 g6 : Nat) (T : List Pr) (m o : Ms) (Htb : ∀ wr, Bx12 w a1 a2 a3 a4 a5 a6 g1 g2 g3 g4 g5 g6 wr → Calls Tryz.prog 13 #[v0, .int .i64 12] wr (MOut wr T)) (Hm1 : ∀ wr, Calls Tryz.prog 29 #[.agg #[.int .u8 a1, .int .u8 a2, .int .u8 a3, .int .u8 a4, .int .u8 a5, .int .u8 a6]] wr fun e w' => e = .returned (msgV m) ∧ Below wr.heap.size wr w') (Hm2 : ∀ wr, Calls Tryz.prog 29 #[.agg #[.int .u8 g1, .int .u8 g2, .int .u8 g3, .int .u8 g4, .int .u8 g5, .int .u8 g6]] wr fun e w' => e = .returned (msgV o) ∧ Below wr.heap.size wr w') (s1 s2 s9 s18 s19 s20 s21 s22 s23 s24 s25 s26 s27 s28 s29 s30 s31 s32 s33 s34 s35 s36 s37 s38 s39 s40 s41 s42 s43 s44 : Value) (Q : Exit → Act → World → Prop) (hQ : ∀ (u10 u11 u12 u13 u14 u15 u16 u17 : Value) (p : Option Addr) (c : Nat) (b7 b8 : Nat) (wx : World), Lw w [(.slice p T.length c, T)] [(b8, o), (b7, m)] [] wx → Q .normal ⟨#[v0, s1, s2, .pointer (some ⟨w.heap.size, 0, none⟩), .bool false, .bool true, .slice p T.length c, .pointer (some ⟨b7, 0, none⟩), .pointer (some ⟨b8, 0, none⟩), s9, u10, u11, u12, u13, u14, u15, u16, u17, s18, s19, s20, s21, s22, s23, s24, s25, s26, s27, s28, s29, s30, s31, s32, s33, s34, s35, s36, s37, s38, s39, s40, s41, s42, s43, s44], []⟩ wx)
    (s6 s8 : Value) (wx : World) (hHeld : Bx12 w a1 a2 a3 a4 a5 a6 g1 g2 g3 g4 g5 g6 wx) (p : Option Addr) (c : Nat) (hp : IsPairs wx (.slice p T.length c) T) (b7 : Nat) (hz0 : Blk wx b7 34 #[.int .i64 0, .string ⟨#[]⟩, .string ⟨#[]⟩, .string ⟨#[]⟩, .string ⟨#[]⟩, .string ⟨#[]⟩, .string ⟨#[]⟩, .int .i64 0]) (hl0 : w.heap.size < b7) (ho0 : OffB b7 p T) :
    wpAnyH Tryz.prog .any (codeOps fr2R) (NoPanic Q) (fun wr => Bx12 w a1 a2 a3 a4 a5 a6 g1 g2 g3 g4 g5 g6 wr) 4 #[true, true, true, true, true, true, true, true, true, false, false, false, false] ⟨#[v0, s1, s2, .pointer (some ⟨w.heap.size, 0, none⟩), .bool false, .bool true, s6, .pointer (some ⟨b7, 0, none⟩), s8, s9, v0, .slice p T.length c, .pointer (some ⟨w.heap.size, 0, none⟩), .agg #[.int .u8 a1, .int .u8 a2, .int .u8 a3, .int .u8 a4, .int .u8 a5, .int .u8 a6], msgV m, .pointer (some ⟨w.heap.size, 6, none⟩), .agg #[.int .u8 g1, .int .u8 g2, .int .u8 g3, .int .u8 g4, .int .u8 g5, .int .u8 g6], msgV o, s18, s19, s20, s21, s22, s23, s24, s25, s26, s27, s28, s29, s30, s31, s32, s33, s34, s35, s36, s37, s38, s39, s40, s41, s42, s43, s44], []⟩ wx := by
  have HN0 := Lib.hid (fr2_3_01 w v0 a1 a2 a3 a4 a5 a6 g1 g2 g3 g4 g5 g6 T m o Htb Hm1 Hm2 s1 s2 s9 s18 s19 s20 s21 s22 s23 s24 s25 s26 s27 s28 s29 s30 s31 s32 s33 s34 s35 s36 s37 s38 s39 s40 s41 s42 s43 s44 Q hQ)
  clear hQ
  have hltw := hHeld.b.lt
  conv => arg 3; arg 1; whnf
  dsimp only [codeOps]
  refine wpAnyH_ready (rs := [9]) (by kernel_rfl) (by simp) ?_
  refine AllReadyH.cons (o := _) rfl (fun K hK => ?_) AllReadyH.nil
  · go_simp
    refine hK.out _ _ (by (first | with_reducible assumption | with_reducible exact Bx12.below (by with_reducible assumption) (by with_reducible assumption) | with_reducible exact Bx12.alloc (by with_reducible assumption) _)) (fun hHeld => ?_)
    clear hK K
    try simp only [List.setIfInBounds_toArray, List.set_cons_zero, List.set_cons_succ]
    exact wpAnyH_listed (by kernel_rfl) (HN0.out _ _ (by with_reducible assumption) p c (hp.alloc _) _ (hz0.alloc _) hl0 ho0 _ (Blk.new _ _ _) hltw (hp.off_size (Nat.le_refl _)) (Nat.ne_of_lt hz0.lt))
set_option maxRecDepth 1000000 in
set_option maxHeartbeats 8000000 in
theorem fr2_3_n (w : World) (v0 : Value) (a1 a2 a3 a4 a5 a6 g1 g2 g3 g4 g5 g6 : Nat) (T : List Pr) (m o : Ms) (Htb : ∀ wr, Bx12 w a1 a2 a3 a4 a5 a6 g1 g2 g3 g4 g5 g6 wr → Calls Tryz.prog 13 #[v0, .int .i64 12] wr (MOut wr T)) (Hm1 : ∀ wr, Calls Tryz.prog 29 #[.agg #[.int .u8 a1, .int .u8 a2, .int .u8 a3, .int .u8 a4, .int .u8 a5, .int .u8 a6]] wr fun e w' => e = .returned (msgV m) ∧ Below wr.heap.size wr w') (Hm2 : ∀ wr, Calls Tryz.prog 29 #[.agg #[.int .u8 g1, .int .u8 g2, .int .u8 g3, .int .u8 g4, .int .u8 g5, .int .u8 g6]] wr fun e w' => e = .returned (msgV o) ∧ Below wr.heap.size wr w') (s1 s2 s9 s18 s19 s20 s21 s22 s23 s24 s25 s26 s27 s28 s29 s30 s31 s32 s33 s34 s35 s36 s37 s38 s39 s40 s41 s42 s43 s44 : Value) (Q : Exit → Act → World → Prop) (hQ : ∀ (u10 u11 u12 u13 u14 u15 u16 u17 : Value) (p : Option Addr) (c : Nat) (b7 b8 : Nat) (wx : World), Lw w [(.slice p T.length c, T)] [(b8, o), (b7, m)] [] wx → Q .normal ⟨#[v0, s1, s2, .pointer (some ⟨w.heap.size, 0, none⟩), .bool false, .bool true, .slice p T.length c, .pointer (some ⟨b7, 0, none⟩), .pointer (some ⟨b8, 0, none⟩), s9, u10, u11, u12, u13, u14, u15, u16, u17, s18, s19, s20, s21, s22, s23, s24, s25, s26, s27, s28, s29, s30, s31, s32, s33, s34, s35, s36, s37, s38, s39, s40, s41, s42, s43, s44], []⟩ wx)
    (s6 s7 s8 : Value) (wx : World) (hHeld : Bx12 w a1 a2 a3 a4 a5 a6 g1 g2 g3 g4 g5 g6 wx) (p : Option Addr) (c : Nat) (hp : IsPairs wx (.slice p T.length c) T) :
    wpAnyH Tryz.prog .any (codeOps fr2R) (NoPanic Q) (fun wr => Bx12 w a1 a2 a3 a4 a5 a6 g1 g2 g3 g4 g5 g6 wr) 5 #[true, true, true, true, true, true, true, true, false, false, false, false, false] ⟨#[v0, s1, s2, .pointer (some ⟨w.heap.size, 0, none⟩), .bool false, .bool true, s6, s7, s8, s9, v0, .slice p T.length c, .pointer (some ⟨w.heap.size, 0, none⟩), .agg #[.int .u8 a1, .int .u8 a2, .int .u8 a3, .int .u8 a4, .int .u8 a5, .int .u8 a6], msgV m, .pointer (some ⟨w.heap.size, 6, none⟩), .agg #[.int .u8 g1, .int .u8 g2, .int .u8 g3, .int .u8 g4, .int .u8 g5, .int .u8 g6], msgV o, s18, s19, s20, s21, s22, s23, s24, s25, s26, s27, s28, s29, s30, s31, s32, s33, s34, s35, s36, s37, s38, s39, s40, s41, s42, s43, s44], []⟩ wx := by
  have HN0 := Lib.hid (fr2_3_0 w v0 a1 a2 a3 a4 a5 a6 g1 g2 g3 g4 g5 g6 T m o Htb Hm1 Hm2 s1 s2 s9 s18 s19 s20 s21 s22 s23 s24 s25 s26 s27 s28 s29 s30 s31 s32 s33 s34 s35 s36 s37 s38 s39 s40 s41 s42 s43 s44 Q hQ)
  have HN1 := Lib.hid (fr2_3_1 w v0 a1 a2 a3 a4 a5 a6 g1 g2 g3 g4 g5 g6 T m o Htb Hm1 Hm2 s1 s2 s9 s18 s19 s20 s21 s22 s23 s24 s25 s26 s27 s28 s29 s30 s31 s32 s33 s34 s35 s36 s37 s38 s39 s40 s41 s42 s43 s44 Q hQ)
  clear hQ
  have hltw := hHeld.b.lt
  conv => arg 3; arg 1; whnf
  dsimp only [codeOps]
  refine wpAnyH_ready (rs := [8, 9]) (by kernel_rfl) (by simp) ?_
  refine AllReadyH.cons (o := _) rfl (fun K hK => ?_) (AllReadyH.cons (o := _) rfl (fun K hK => ?_) AllReadyH.nil)
  · go_simp
    refine hK.out _ _ (by (first | with_reducible assumption | with_reducible exact Bx12.below (by with_reducible assumption) (by with_reducible assumption) | with_reducible exact Bx12.alloc (by with_reducible assumption) _)) (fun hHeld => ?_)
    clear hK K
    try simp only [List.setIfInBounds_toArray, List.set_cons_zero, List.set_cons_succ]
    exact wpAnyH_listed (by kernel_rfl) (HN0.out _ _ _ (by with_reducible assumption) p c (hp.alloc _) _ (Blk.new _ _ _) hltw (hp.off_size (Nat.le_refl _)))
  · go_simp
    refine hK.out _ _ (by (first | with_reducible assumption | with_reducible exact Bx12.below (by with_reducible assumption) (by with_reducible assumption) | with_reducible exact Bx12.alloc (by with_reducible assumption) _)) (fun hHeld => ?_)
    clear hK K
    try simp only [List.setIfInBounds_toArray, List.set_cons_zero, List.set_cons_succ]
    exact wpAnyH_listed (by kernel_rfl) (HN1.out _ _ _ (by with_reducible assumption) p c (hp.alloc _) _ (Blk.new _ _ _) hltw (hp.off_size (Nat.le_refl _)))
set_option maxRecDepth 1000000 in
set_option maxHeartbeats 8000000 in
theorem fr2_2_01 (w : World) (v0 : Value) (a1 a2 a3 a4 a5 a6 g1 g2 g3 g4 g5 g6 : Nat) (T : List Pr) (m o : Ms) (Htb : ∀ wr, Bx12 w a1 a2 a3 a4 a5 a6 g1 g2 g3 g4 g5 g6 wr → Calls Tryz.prog 13 #[v0, .int .i64 12] wr (MOut wr T)) (Hm1 : ∀ wr, Calls Tryz.prog 29 #[.agg #[.int .u8 a1, .int .u8 a2, .int .u8 a3, .int .u8 a4, .int .u8 a5, .int .u8 a6]] wr fun e w' => e = .returned (msgV m) ∧ Below wr.heap.size wr w') (Hm2 : ∀ wr, Calls Tryz.prog 29 #[.agg #[.int .u8 g1, .int .u8 g2, .int .u8 g3, .int .u8 g4, .int .u8 g5, .int .u8 g6]] wr fun e w' => e = .returned (msgV o) ∧ Below wr.heap.size wr w') (s1 s2 s9 s18 s19 s20 s21 s22 s23 s24 s25 s26 s27 s28 s29 s30 s31 s32 s33 s34 s35 s36 s37 s38 s39 s40 s41 s42 s43 s44 : Value) (Q : Exit → Act → World → Prop) (hQ : ∀ (u10 u11 u12 u13 u14 u15 u16 u17 : Value) (p : Option Addr) (c : Nat) (b7 b8 : Nat) (wx : World), Lw w [(.slice p T.length c, T)] [(b8, o), (b7, m)] [] wx → Q .normal ⟨#[v0, s1, s2, .pointer (some ⟨w.heap.size, 0, none⟩), .bool false, .bool true, .slice p T.length c, .pointer (some ⟨b7, 0, none⟩), .pointer (some ⟨b8, 0, none⟩), s9, u10, u11, u12, u13, u14, u15, u16, u17, s18, s19, s20, s21, s22, s23, s24, s25, s26, s27, s28, s29, s30, s31, s32, s33, s34, s35, s36, s37, s38, s39, s40, s41, s42, s43, s44], []⟩ wx)
    (s6 s17 : Value) (wx : World) (hHeld : Bx12 w a1 a2 a3 a4 a5 a6 g1 g2 g3 g4 g5 g6 wx) (p : Option Addr) (c : Nat) (hp : IsPairs wx (.slice p T.length c) T) (b7 : Nat) (hz0 : Blk wx b7 34 #[.int .i64 0, .string ⟨#[]⟩, .string ⟨#[]⟩, .string ⟨#[]⟩, .string ⟨#[]⟩, .string ⟨#[]⟩, .string ⟨#[]⟩, .int .i64 0]) (hl0 : w.heap.size < b7) (ho0 : OffB b7 p T) (b8 : Nat) (hz1 : Blk wx b8 34 #[.int .i64 0, .string ⟨#[]⟩, .string ⟨#[]⟩, .string ⟨#[]⟩, .string ⟨#[]⟩, .string ⟨#[]⟩, .string ⟨#[]⟩, .int .i64 0]) (hl1 : w.heap.size < b8) (ho1 : OffB b8 p T) (hn01 : b7 ≠ b8) :
    wpAnyH Tryz.prog .any (codeOps fr2R) (NoPanic Q) (fun wr => Bx12 w a1 a2 a3 a4 a5 a6 g1 g2 g3 g4 g5 g6 wr) 4 #[true, true, true, true, true, true, true, false, true, true, false, false, false] ⟨#[v0, s1, s2, .pointer (some ⟨w.heap.size, 0, none⟩), .bool false, .bool true, s6, .pointer (some ⟨b7, 0, none⟩), .pointer (some ⟨b8, 0, none⟩), s9, v0, .slice p T.length c, .pointer (some ⟨w.heap.size, 0, none⟩), .agg #[.int .u8 a1, .int .u8 a2, .int .u8 a3, .int .u8 a4, .int .u8 a5, .int .u8 a6], msgV m, .pointer (some ⟨w.heap.size, 6, none⟩), .agg #[.int .u8 g1, .int .u8 g2, .int .u8 g3, .int .u8 g4, .int .u8 g5, .int .u8 g6], s17, s18, s19, s20, s21, s22, s23, s24, s25, s26, s27, s28, s29, s30, s31, s32, s33, s34, s35, s36, s37, s38, s39, s40, s41, s42, s43, s44], []⟩ wx := by
  have HN0 := Lib.hid (fr2_3_01 w v0 a1 a2 a3 a4 a5 a6 g1 g2 g3 g4 g5 g6 T m o Htb Hm1 Hm2 s1 s2 s9 s18 s19 s20 s21 s22 s23 s24 s25 s26 s27 s28 s29 s30 s31 s32 s33 s34 s35 s36 s37 s38 s39 s40 s41 s42 s43 s44 Q hQ)
  clear hQ
  have hltw := hHeld.b.lt
  conv => arg 3; arg 1; whnf
  dsimp only [codeOps]
  refine wpAnyH_ready (rs := [7]) (by kernel_rfl) (by simp) ?_
  refine AllReadyH.cons (o := _) rfl (fun K hK => ?_) AllReadyH.nil
  · go_simp
    (go_at_call 29; (with_reducible refine (Hm2 _).mono ?_); rintro e x2 ⟨rfl, hb⟩)
    refine hK.out _ _ (by (first | with_reducible assumption | with_reducible exact Bx12.below (by with_reducible assumption) (by with_reducible assumption) | with_reducible exact Bx12.alloc (by with_reducible assumption) _)) (fun hHeld => ?_)
    clear hK K
    try simp only [List.setIfInBounds_toArray, List.set_cons_zero, List.set_cons_succ]
    exact wpAnyH_listed (by kernel_rfl) (HN0.out _ _ (by with_reducible assumption) p c (hp.below hb) _ (hz0.below hb hz0.lt) hl0 ho0 _ (hz1.below hb hz1.lt) hl1 ho1 hn01)
set_option maxRecDepth 1000000 in
set_option maxHeartbeats 8000000 in
theorem fr2_2_1 (w : World) (v0 : Value) (a1 a2 a3 a4 a5 a6 g1 g2 g3 g4 g5 g6 : Nat) (T : List Pr) (m o : Ms) (Htb : ∀ wr, Bx12 w a1 a2 a3 a4 a5 a6 g1 g2 g3 g4 g5 g6 wr → Calls Tryz.prog 13 #[v0, .int .i64 12] wr (MOut wr T)) (Hm1 : ∀ wr, Calls Tryz.prog 29 #[.agg #[.int .u8 a1, .int .u8 a2, .int .u8 a3, .int .u8 a4, .int .u8 a5, .int .u8 a6]] wr fun e w' => e = .returned (msgV m) ∧ Below wr.heap.size wr w') (Hm2 : ∀ wr, Calls Tryz.prog 29 #[.agg #[.int .u8 g1, .int .u8 g2, .int .u8 g3, .int .u8 g4, .int .u8 g5, .int .u8 g6]] wr fun e w' => e = .returned (msgV o) ∧ Below wr.heap.size wr w') (s1 s2 s9 s18 s19 s20 s21 s22 s23 s24 s25 s26 s27 s28 s29 s30 s31 s32 s33 s34 s35 s36 s37 s38 s39 s40 s41 s42 s43 s44 : Value) (Q : Exit → Act → World → Prop) (hQ : ∀ (u10 u11 u12 u13 u14 u15 u16 u17 : Value) (p : Option Addr) (c : Nat) (b7 b8 : Nat) (wx : World), Lw w [(.slice p T.length c, T)] [(b8, o), (b7, m)] [] wx → Q .normal ⟨#[v0, s1, s2, .pointer (some ⟨w.heap.size, 0, none⟩), .bool false, .bool true, .slice p T.length c, .pointer (some ⟨b7, 0, none⟩), .pointer (some ⟨b8, 0, none⟩), s9, u10, u11, u12, u13, u14, u15, u16, u17, s18, s19, s20, s21, s22, s23, s24, s25, s26, s27, s28, s29, s30, s31, s32, s33, s34, s35, s36, s37, s38, s39, s40, s41, s42, s43, s44], []⟩ wx)
    (s6 s7 s17 : Value) (wx : World) (hHeld : Bx12 w a1 a2 a3 a4 a5 a6 g1 g2 g3 g4 g5 g6 wx) (p : Option Addr) (c : Nat) (hp : IsPairs wx (.slice p T.length c) T) (b8 : Nat) (hz1 : Blk wx b8 34 #[.int .i64 0, .string ⟨#[]⟩, .string ⟨#[]⟩, .string ⟨#[]⟩, .string ⟨#[]⟩, .string ⟨#[]⟩, .string ⟨#[]⟩, .int .i64 0]) (hl1 : w.heap.size < b8) (ho1 : OffB b8 p T) :
    wpAnyH Tryz.prog .any (codeOps fr2R) (NoPanic Q) (fun wr => Bx12 w a1 a2 a3 a4 a5 a6 g1 g2 g3 g4 g5 g6 wr) 5 #[true, true, true, true, true, true, true, false, false, true, false, false, false] ⟨#[v0, s1, s2, .pointer (some ⟨w.heap.size, 0, none⟩), .bool false, .bool true, s6, s7, .pointer (some ⟨b8, 0, none⟩), s9, v0, .slice p T.length c, .pointer (some ⟨w.heap.size, 0, none⟩), .agg #[.int .u8 a1, .int .u8 a2, .int .u8 a3, .int .u8 a4, .int .u8 a5, .int .u8 a6], msgV m, .pointer (some ⟨w.heap.size, 6, none⟩), .agg #[.int .u8 g1, .int .u8 g2, .int .u8 g3, .int .u8 g4, .int .u8 g5, .int .u8 g6], s17, s18, s19, s20, s21, s22, s23, s24, s25, s26, s27, s28, s29, s30, s31, s32, s33, s34, s35, s36, s37, s38, s39, s40, s41, s42, s43, s44], []⟩ wx := by
  have HN0 := Lib.hid (fr2_3_1 w v0 a1 a2 a3 a4 a5 a6 g1 g2 g3 g4 g5 g6 T m o Htb Hm1 Hm2 s1 s2 s9 s18 s19 s20 s21 s22 s23 s24 s25 s26 s27 s28 s29 s30 s31 s32 s33 s34 s35 s36 s37 s38 s39 s40 s41 s42 s43 s44 Q hQ)
  have HN1 := Lib.hid (fr2_2_01 w v0 a1 a2 a3 a4 a5 a6 g1 g2 g3 g4 g5 g6 T m o Htb Hm1 Hm2 s1 s2 s9 s18 s19 s20 s21 s22 s23 s24 s25 s26 s27 s28 s29 s30 s31 s32 s33 s34 s35 s36 s37 s38 s39 s40 s41 s42 s43 s44 Q hQ)
  clear hQ
  have hltw := hHeld.b.lt
  conv => arg 3; arg 1; whnf
  dsimp only [codeOps]
  refine wpAnyH_ready (rs := [7, 8]) (by kernel_rfl) (by simp) ?_
  refine AllReadyH.cons (o := _) rfl (fun K hK => ?_) (AllReadyH.cons (o := _) rfl (fun K hK => ?_) AllReadyH.nil)
  · go_simp
    (go_at_call 29; (with_reducible refine (Hm2 _).mono ?_); rintro e x2 ⟨rfl, hb⟩)
    refine hK.out _ _ (by (first | with_reducible assumption | with_reducible exact Bx12.below (by with_reducible assumption) (by with_reducible assumption) | with_reducible exact Bx12.alloc (by with_reducible assumption) _)) (fun hHeld => ?_)
    clear hK K
    try simp only [List.setIfInBounds_toArray, List.set_cons_zero, List.set_cons_succ]
    exact wpAnyH_listed (by kernel_rfl) (HN0.out _ _ _ (by with_reducible assumption) p c (hp.below hb) _ (hz1.below hb hz1.lt) hl1 ho1)
  · go_simp
    refine hK.out _ _ (by (first | with_reducible assumption | with_reducible exact Bx12.below (by with_reducible assumption) (by with_reducible assumption) | with_reducible exact Bx12.alloc (by with_reducible assumption) _)) (fun hHeld => ?_)
    clear hK K
    try simp only [List.setIfInBounds_toArray, List.set_cons_zero, List.set_cons_succ]
    exact wpAnyH_listed (by kernel_rfl) (HN1.out _ _ _ (by with_reducible assumption) p c (hp.alloc _) _ (Blk.new _ _ _) hltw (hp.off_size (Nat.le_refl _)) _ (hz1.alloc _) hl1 ho1 (Nat.ne_of_gt hz1.lt))
set_option maxRecDepth 1000000 in
set_option maxHeartbeats 8000000 in
theorem fr2_2_0 (w : World) (v0 : Value) (a1 a2 a3 a4 a5 a6 g1 g2 g3 g4 g5 g6 : Nat) (T : List Pr) (m o : Ms) (Htb : ∀ wr, Bx12 w a1 a2 a3 a4 a5 a6 g1 g2 g3 g4 g5 g6 wr → Calls Tryz.prog 13 #[v0, .int .i64 12] wr (MOut wr T)) (Hm1 : ∀ wr, Calls Tryz.prog 29 #[.agg #[.int .u8 a1, .int .u8 a2, .int .u8 a3, .int .u8 a4, .int .u8 a5, .int .u8 a6]] wr fun e w' => e = .returned (msgV m) ∧ Below wr.heap.size wr w') (Hm2 : ∀ wr, Calls Tryz.prog 29 #[.agg #[.int .u8 g1, .int .u8 g2, .int .u8 g3, .int .u8 g4, .int .u8 g5, .int .u8 g6]] wr fun e w' => e = .returned (msgV o) ∧ Below wr.heap.size wr w') (s1 s2 s9 s18 s19 s20 s21 s22 s23 s24 s25 s26 s27 s28 s29 s30 s31 s32 s33 s34 s35 s36 s37 s38 s39 s40 s41 s42 s43 s44 : Value) (Q : Exit → Act → World → Prop) (hQ : ∀ (u10 u11 u12 u13 u14 u15 u16 u17 : Value) (p : Option Addr) (c : Nat) (b7 b8 : Nat) (wx : World), Lw w [(.slice p T.length c, T)] [(b8, o), (b7, m)] [] wx → Q .normal ⟨#[v0, s1, s2, .pointer (some ⟨w.heap.size, 0, none⟩), .bool false, .bool true, .slice p T.length c, .pointer (some ⟨b7, 0, none⟩), .pointer (some ⟨b8, 0, none⟩), s9, u10, u11, u12, u13, u14, u15, u16, u17, s18, s19, s20, s21, s22, s23, s24, s25, s26, s27, s28, s29, s30, s31, s32, s33, s34, s35, s36, s37, s38, s39, s40, s41, s42, s43, s44], []⟩ wx)
    (s6 s8 s17 : Value) (wx : World) (hHeld : Bx12 w a1 a2 a3 a4 a5 a6 g1 g2 g3 g4 g5 g6 wx) (p : Option Addr) (c : Nat) (hp : IsPairs wx (.slice p T.length c) T) (b7 : Nat) (hz0 : Blk wx b7 34 #[.int .i64 0, .string ⟨#[]⟩, .string ⟨#[]⟩, .string ⟨#[]⟩, .string ⟨#[]⟩, .string ⟨#[]⟩, .string ⟨#[]⟩, .int .i64 0]) (hl0 : w.heap.size < b7) (ho0 : OffB b7 p T) :
    wpAnyH Tryz.prog .any (codeOps fr2R) (NoPanic Q) (fun wr => Bx12 w a1 a2 a3 a4 a5 a6 g1 g2 g3 g4 g5 g6 wr) 5 #[true, true, true, true, true, true, true, false, true, false, false, false, false] ⟨#[v0, s1, s2, .pointer (some ⟨w.heap.size, 0, none⟩), .bool false, .bool true, s6, .pointer (some ⟨b7, 0, none⟩), s8, s9, v0, .slice p T.length c, .pointer (some ⟨w.heap.size, 0, none⟩), .agg #[.int .u8 a1, .int .u8 a2, .int .u8 a3, .int .u8 a4, .int .u8 a5, .int .u8 a6], msgV m, .pointer (some ⟨w.heap.size, 6, none⟩), .agg #[.int .u8 g1, .int .u8 g2, .int .u8 g3, .int .u8 g4, .int .u8 g5, .int .u8 g6], s17, s18, s19, s20, s21, s22, s23, s24, s25, s26, s27, s28, s29, s30, s31, s32, s33, s34, s35, s36, s37, s38, s39, s40, s41, s42, s43, s44], []⟩ wx := by
  have HN0 := Lib.hid (fr2_3_0 w v0 a1 a2 a3 a4 a5 a6 g1 g2 g3 g4 g5 g6 T m o Htb Hm1 Hm2 s1 s2 s9 s18 s19 s20 s21 s22 s23 s24 s25 s26 s27 s28 s29 s30 s31 s32 s33 s34 s35 s36 s37 s38 s39 s40 s41 s42 s43 s44 Q hQ)
  have HN1 := Lib.hid (fr2_2_01 w v0 a1 a2 a3 a4 a5 a6 g1 g2 g3 g4 g5 g6 T m o Htb Hm1 Hm2 s1 s2 s9 s18 s19 s20 s21 s22 s23 s24 s25 s26 s27 s28 s29 s30 s31 s32 s33 s34 s35 s36 s37 s38 s39 s40 s41 s42 s43 s44 Q hQ)
  clear hQ
  have hltw := hHeld.b.lt
  conv => arg 3; arg 1; whnf
  dsimp only [codeOps]
  refine wpAnyH_ready (rs := [7, 9]) (by kernel_rfl) (by simp) ?_
  refine AllReadyH.cons (o := _) rfl (fun K hK => ?_) (AllReadyH.cons (o := _) rfl (fun K hK => ?_) AllReadyH.nil)
  · go_simp
    (go_at_call 29; (with_reducible refine (Hm2 _).mono ?_); rintro e x2 ⟨rfl, hb⟩)
    refine hK.out _ _ (by (first | with_reducible assumption | with_reducible exact Bx12.below (by with_reducible assumption) (by with_reducible assumption) | with_reducible exact Bx12.alloc (by with_reducible assumption) _)) (fun hHeld => ?_)
    clear hK K
    try simp only [List.setIfInBounds_toArray, List.set_cons_zero, List.set_cons_succ]
    exact wpAnyH_listed (by kernel_rfl) (HN0.out _ _ _ (by with_reducible assumption) p c (hp.below hb) _ (hz0.below hb hz0.lt) hl0 ho0)
  · go_simp
    refine hK.out _ _ (by (first | with_reducible assumption | with_reducible exact Bx12.below (by with_reducible assumption) (by with_reducible assumption) | with_reducible exact Bx12.alloc (by with_reducible assumption) _)) (fun hHeld => ?_)
    clear hK K
    try simp only [List.setIfInBounds_toArray, List.set_cons_zero, List.set_cons_succ]
    exact wpAnyH_listed (by kernel_rfl) (HN1.out _ _ _ (by with_reducible assumption) p c (hp.alloc _) _ (hz0.alloc _) hl0 ho0 _ (Blk.new _ _ _) hltw (hp.off_size (Nat.le_refl _)) (Nat.ne_of_lt hz0.lt))
set_option maxRecDepth 1000000 in
set_option maxHeartbeats 8000000 in
theorem fr2_2_n (w : World) (v0 : Value) (a1 a2 a3 a4 a5 a6 g1 g2 g3 g4 g5 g6 : Nat) (T : List Pr) (m o : Ms) (Htb : ∀ wr, Bx12 w a1 a2 a3 a4 a5 a6 g1 g2 g3 g4 g5 g6 wr → Calls Tryz.prog 13 #[v0, .int .i64 12] wr (MOut wr T)) (Hm1 : ∀ wr, Calls Tryz.prog 29 #[.agg #[.int .u8 a1, .int .u8 a2, .int .u8 a3, .int .u8 a4, .int .u8 a5, .int .u8 a6]] wr fun e w' => e = .returned (msgV m) ∧ Below wr.heap.size wr w') (Hm2 : ∀ wr, Calls Tryz.prog 29 #[.agg #[.int .u8 g1, .int .u8 g2, .int .u8 g3, .int .u8 g4, .int .u8 g5, .int .u8 g6]] wr fun e w' => e = .returned (msgV o) ∧ Below wr.heap.size wr w') (s1 s2 s9 s18 s19 s20 s21 s22 s23 s24 s25 s26 s27 s28 s29 s30 s31 s32 s33 s34 s35 s36 s37 s38 s39 s40 s41 s42 s43 s44 : Value) (Q : Exit → Act → World → Prop) (hQ : ∀ (u10 u11 u12 u13 u14 u15 u16 u17 : Value) (p : Option Addr) (c : Nat) (b7 b8 : Nat) (wx : World), Lw w [(.slice p T.length c, T)] [(b8, o), (b7, m)] [] wx → Q .normal ⟨#[v0, s1, s2, .pointer (some ⟨w.heap.size, 0, none⟩), .bool false, .bool true, .slice p T.length c, .pointer (some ⟨b7, 0, none⟩), .pointer (some ⟨b8, 0, none⟩), s9, u10, u11, u12, u13, u14, u15, u16, u17, s18, s19, s20, s21, s22, s23, s24, s25, s26, s27, s28, s29, s30, s31, s32, s33, s34, s35, s36, s37, s38, s39, s40, s41, s42, s43, s44], []⟩ wx)
    (s6 s7 s8 s17 : Value) (wx : World) (hHeld : Bx12 w a1 a2 a3 a4 a5 a6 g1 g2 g3 g4 g5 g6 wx) (p : Option Addr) (c : Nat) (hp : IsPairs wx (.slice p T.length c) T) :
    wpAnyH Tryz.prog .any (codeOps fr2R) (NoPanic Q) (fun wr => Bx12 w a1 a2 a3 a4 a5 a6 g1 g2 g3 g4 g5 g6 wr) 6 #[true, true, true, true, true, true, true, false, false, false, false, false, false] ⟨#[v0, s1, s2, .pointer (some ⟨w.heap.size, 0, none⟩), .bool false, .bool true, s6, s7, s8, s9, v0, .slice p T.length c, .pointer (some ⟨w.heap.size, 0, none⟩), .agg #[.int .u8 a1, .int .u8 a2, .int .u8 a3, .int .u8 a4, .int .u8 a5, .int .u8 a6], msgV m, .pointer (some ⟨w.heap.size, 6, none⟩), .agg #[.int .u8 g1, .int .u8 g2, .int .u8 g3, .int .u8 g4, .int .u8 g5, .int .u8 g6], s17, s18, s19, s20, s21, s22, s23, s24, s25, s26, s27, s28, s29, s30, s31, s32, s33, s34, s35, s36, s37, s38, s39, s40, s41, s42, s43, s44], []⟩ wx := by
  have HN0 := Lib.hid (fr2_3_n w v0 a1 a2 a3 a4 a5 a6 g1 g2 g3 g4 g5 g6 T m o Htb Hm1 Hm2 s1 s2 s9 s18 s19 s20 s21 s22 s23 s24 s25 s26 s27 s28 s29 s30 s31 s32 s33 s34 s35 s36 s37 s38 s39 s40 s41 s42 s43 s44 Q hQ)
  have HN1 := Lib.hid (fr2_2_0 w v0 a1 a2 a3 a4 a5 a6 g1 g2 g3 g4 g5 g6 T m o Htb Hm1 Hm2 s1 s2 s9 s18 s19 s20 s21 s22 s23 s24 s25 s26 s27 s28 s29 s30 s31 s32 s33 s34 s35 s36 s37 s38 s39 s40 s41 s42 s43 s44 Q hQ)
  have HN2 := Lib.hid (fr2_2_1 w v0 a1 a2 a3 a4 a5 a6 g1 g2 g3 g4 g5 g6 T m o Htb Hm1 Hm2 s1 s2 s9 s18 s19 s20 s21 s22 s23 s24 s25 s26 s27 s28 s29 s30 s31 s32 s33 s34 s35 s36 s37 s38 s39 s40 s41 s42 s43 s44 Q hQ)
  clear hQ
  have hltw := hHeld.b.lt
  conv => arg 3; arg 1; whnf
  dsimp only [codeOps]
  refine wpAnyH_ready (rs := [7, 8, 9]) (by kernel_rfl) (by simp) ?_
  refine AllReadyH.cons (o := _) rfl (fun K hK => ?_) (AllReadyH.cons (o := _) rfl (fun K hK => ?_) (AllReadyH.cons (o := _) rfl (fun K hK => ?_) AllReadyH.nil))
  · go_simp
    (go_at_call 29; (with_reducible refine (Hm2 _).mono ?_); rintro e x2 ⟨rfl, hb⟩)
    refine hK.out _ _ (by (first | with_reducible assumption | with_reducible exact Bx12.below (by with_reducible assumption) (by with_reducible assumption) | with_reducible exact Bx12.alloc (by with_reducible assumption) _)) (fun hHeld => ?_)
    clear hK K
    try simp only [List.setIfInBounds_toArray, List.set_cons_zero, List.set_cons_succ]
    exact wpAnyH_listed (by kernel_rfl) (HN0.out _ _ _ _ (by with_reducible assumption) p c (hp.below hb))
  · go_simp
    refine hK.out _ _ (by (first | with_reducible assumption | with_reducible exact Bx12.below (by with_reducible assumption) (by with_reducible assumption) | with_reducible exact Bx12.alloc (by with_reducible assumption) _)) (fun hHeld => ?_)
    clear hK K
    try simp only [List.setIfInBounds_toArray, List.set_cons_zero, List.set_cons_succ]
    exact wpAnyH_listed (by kernel_rfl) (HN1.out _ _ _ _ (by with_reducible assumption) p c (hp.alloc _) _ (Blk.new _ _ _) hltw (hp.off_size (Nat.le_refl _)))
  · go_simp
    refine hK.out _ _ (by (first | with_reducible assumption | with_reducible exact Bx12.below (by with_reducible assumption) (by with_reducible assumption) | with_reducible exact Bx12.alloc (by with_reducible assumption) _)) (fun hHeld => ?_)
    clear hK K
    try simp only [List.setIfInBounds_toArray, List.set_cons_zero, List.set_cons_succ]
    exact wpAnyH_listed (by kernel_rfl) (HN2.out _ _ _ _ (by with_reducible assumption) p c (hp.alloc _) _ (Blk.new _ _ _) hltw (hp.off_size (Nat.le_refl _)))
set_option maxRecDepth 1000000 in
set_option maxHeartbeats 8000000 in
theorem fr2_1_01 (w : World) (v0 : Value) (a1 a2 a3 a4 a5 a6 g1 g2 g3 g4 g5 g6 : Nat) (T : List Pr) (m o : Ms) (Htb : ∀ wr, Bx12 w a1 a2 a3 a4 a5 a6 g1 g2 g3 g4 g5 g6 wr → Calls Tryz.prog 13 #[v0, .int .i64 12] wr (MOut wr T)) (Hm1 : ∀ wr, Calls Tryz.prog 29 #[.agg #[.int .u8 a1, .int .u8 a2, .int .u8 a3, .int .u8 a4, .int .u8 a5, .int .u8 a6]] wr fun e w' => e = .returned (msgV m) ∧ Below wr.heap.size wr w') (Hm2 : ∀ wr, Calls Tryz.prog 29 #[.agg #[.int .u8 g1, .int .u8 g2, .int .u8 g3, .int .u8 g4, .int .u8 g5, .int .u8 g6]] wr fun e w' => e = .returned (msgV o) ∧ Below wr.heap.size wr w') (s1 s2 s9 s18 s19 s20 s21 s22 s23 s24 s25 s26 s27 s28 s29 s30 s31 s32 s33 s34 s35 s36 s37 s38 s39 s40 s41 s42 s43 s44 : Value) (Q : Exit → Act → World → Prop) (hQ : ∀ (u10 u11 u12 u13 u14 u15 u16 u17 : Value) (p : Option Addr) (c : Nat) (b7 b8 : Nat) (wx : World), Lw w [(.slice p T.length c, T)] [(b8, o), (b7, m)] [] wx → Q .normal ⟨#[v0, s1, s2, .pointer (some ⟨w.heap.size, 0, none⟩), .bool false, .bool true, .slice p T.length c, .pointer (some ⟨b7, 0, none⟩), .pointer (some ⟨b8, 0, none⟩), s9, u10, u11, u12, u13, u14, u15, u16, u17, s18, s19, s20, s21, s22, s23, s24, s25, s26, s27, s28, s29, s30, s31, s32, s33, s34, s35, s36, s37, s38, s39, s40, s41, s42, s43, s44], []⟩ wx)
    (s6 s14 s17 : Value) (wx : World) (hHeld : Bx12 w a1 a2 a3 a4 a5 a6 g1 g2 g3 g4 g5 g6 wx) (p : Option Addr) (c : Nat) (hp : IsPairs wx (.slice p T.length c) T) (b7 : Nat) (hz0 : Blk wx b7 34 #[.int .i64 0, .string ⟨#[]⟩, .string ⟨#[]⟩, .string ⟨#[]⟩, .string ⟨#[]⟩, .string ⟨#[]⟩, .string ⟨#[]⟩, .int .i64 0]) (hl0 : w.heap.size < b7) (ho0 : OffB b7 p T) (b8 : Nat) (hz1 : Blk wx b8 34 #[.int .i64 0, .string ⟨#[]⟩, .string ⟨#[]⟩, .string ⟨#[]⟩, .string ⟨#[]⟩, .string ⟨#[]⟩, .string ⟨#[]⟩, .int .i64 0]) (hl1 : w.heap.size < b8) (ho1 : OffB b8 p T) (hn01 : b7 ≠ b8) :
    wpAnyH Tryz.prog .any (codeOps fr2R) (NoPanic Q) (fun wr => Bx12 w a1 a2 a3 a4 a5 a6 g1 g2 g3 g4 g5 g6 wr) 5 #[true, true, true, true, false, true, true, false, true, true, false, false, false] ⟨#[v0, s1, s2, .pointer (some ⟨w.heap.size, 0, none⟩), .bool false, .bool true, s6, .pointer (some ⟨b7, 0, none⟩), .pointer (some ⟨b8, 0, none⟩), s9, v0, .slice p T.length c, .pointer (some ⟨w.heap.size, 0, none⟩), .agg #[.int .u8 a1, .int .u8 a2, .int .u8 a3, .int .u8 a4, .int .u8 a5, .int .u8 a6], s14, .pointer (some ⟨w.heap.size, 6, none⟩), .agg #[.int .u8 g1, .int .u8 g2, .int .u8 g3, .int .u8 g4, .int .u8 g5, .int .u8 g6], s17, s18, s19, s20, s21, s22, s23, s24, s25, s26, s27, s28, s29, s30, s31, s32, s33, s34, s35, s36, s37, s38, s39, s40, s41, s42, s43, s44], []⟩ wx := by
  have HN0 := Lib.hid (fr2_2_01 w v0 a1 a2 a3 a4 a5 a6 g1 g2 g3 g4 g5 g6 T m o Htb Hm1 Hm2 s1 s2 s9 s18 s19 s20 s21 s22 s23 s24 s25 s26 s27 s28 s29 s30 s31 s32 s33 s34 s35 s36 s37 s38 s39 s40 s41 s42 s43 s44 Q hQ)
  clear hQ
  have hltw := hHeld.b.lt
  conv => arg 3; arg 1; whnf
  dsimp only [codeOps]
  refine wpAnyH_ready (rs := [4]) (by kernel_rfl) (by simp) ?_
  refine AllReadyH.cons (o := _) rfl (fun K hK => ?_) AllReadyH.nil
  · go_simp
    (go_at_call 29; (with_reducible refine (Hm1 _).mono ?_); rintro e x2 ⟨rfl, hb⟩)
    refine hK.out _ _ (by (first | with_reducible assumption | with_reducible exact Bx12.below (by with_reducible assumption) (by with_reducible assumption) | with_reducible exact Bx12.alloc (by with_reducible assumption) _)) (fun hHeld => ?_)
    clear hK K
    try simp only [List.setIfInBounds_toArray, List.set_cons_zero, List.set_cons_succ]
    exact wpAnyH_listed (by kernel_rfl) (HN0.out _ _ _ (by with_reducible assumption) p c (hp.below hb) _ (hz0.below hb hz0.lt) hl0 ho0 _ (hz1.below hb hz1.lt) hl1 ho1 hn01)
set_option maxRecDepth 1000000 in
set_option maxHeartbeats 8000000 in
theorem fr2_1_1 (w : World) (v0 : Value) (a1 a2 a3 a4 a5 a6 g1 g2 g3 g4 g5 g6 : Nat) (T : List Pr) (m o : Ms) (Htb : ∀ wr, Bx12 w a1 a2 a3 a4 a5 a6 g1 g2 g3 g4 g5 g6 wr → Calls Tryz.prog 13 #[v0, .int .i64 12] wr (MOut wr T)) (Hm1 : ∀ wr, Calls Tryz.prog 29 #[.agg #[.int .u8 a1, .int .u8 a2, .int .u8 a3, .int .u8 a4, .int .u8 a5, .int .u8 a6]] wr fun e w' => e = .returned (msgV m) ∧ Below wr.heap.size wr w') (Hm2 : ∀ wr, Calls Tryz.prog 29 #[.agg #[.int .u8 g1, .int .u8 g2, .int .u8 g3, .int .u8 g4, .int .u8 g5, .int .u8 g6]] wr fun e w' => e = .returned (msgV o) ∧ Below wr.heap.size wr w') (s1 s2 s9 s18 s19 s20 s21 s22 s23 s24 s25 s26 s27 s28 s29 s30 s31 s32 s33 s34 s35 s36 s37 s38 s39 s40 s41 s42 s43 s44 : Value) (Q : Exit → Act → World → Prop) (hQ : ∀ (u10 u11 u12 u13 u14 u15 u16 u17 : Value) (p : Option Addr) (c : Nat) (b7 b8 : Nat) (wx : World), Lw w [(.slice p T.length c, T)] [(b8, o), (b7, m)] [] wx → Q .normal ⟨#[v0, s1, s2, .pointer (some ⟨w.heap.size, 0, none⟩), .bool false, .bool true, .slice p T.length c, .pointer (some ⟨b7, 0, none⟩), .pointer (some ⟨b8, 0, none⟩), s9, u10, u11, u12, u13, u14, u15, u16, u17, s18, s19, s20, s21, s22, s23, s24, s25, s26, s27, s28, s29, s30, s31, s32, s33, s34, s35, s36, s37, s38, s39, s40, s41, s42, s43, s44], []⟩ wx)
    (s6 s7 s14 s17 : Value) (wx : World) (hHeld : Bx12 w a1 a2 a3 a4 a5 a6 g1 g2 g3 g4 g5 g6 wx) (p : Option Addr) (c : Nat) (hp : IsPairs wx (.slice p T.length c) T) (b8 : Nat) (hz1 : Blk wx b8 34 #[.int .i64 0, .string ⟨#[]⟩, .string ⟨#[]⟩, .string ⟨#[]⟩, .string ⟨#[]⟩, .string ⟨#[]⟩, .string ⟨#[]⟩, .int .i64 0]) (hl1 : w.heap.size < b8) (ho1 : OffB b8 p T) :
    wpAnyH Tryz.prog .any (codeOps fr2R) (NoPanic Q) (fun wr => Bx12 w a1 a2 a3 a4 a5 a6 g1 g2 g3 g4 g5 g6 wr) 6 #[true, true, true, true, false, true, true, false, false, true, false, false, false] ⟨#[v0, s1, s2, .pointer (some ⟨w.heap.size, 0, none⟩), .bool false, .bool true, s6, s7, .pointer (some ⟨b8, 0, none⟩), s9, v0, .slice p T.length c, .pointer (some ⟨w.heap.size, 0, none⟩), .agg #[.int .u8 a1, .int .u8 a2, .int .u8 a3, .int .u8 a4, .int .u8 a5, .int .u8 a6], s14, .pointer (some ⟨w.heap.size, 6, none⟩), .agg #[.int .u8 g1, .int .u8 g2, .int .u8 g3, .int .u8 g4, .int .u8 g5, .int .u8 g6], s17, s18, s19, s20, s21, s22, s23, s24, s25, s26, s27, s28, s29, s30, s31, s32, s33, s34, s35, s36, s37, s38, s39, s40, s41, s42, s43, s44], []⟩ wx := by
  have HN0 := Lib.hid (fr2_2_1 w v0 a1 a2 a3 a4 a5 a6 g1 g2 g3 g4 g5 g6 T m o Htb Hm1 Hm2 s1 s2 s9 s18 s19 s20 s21 s22 s23 s24 s25 s26 s27 s28 s29 s30 s31 s32 s33 s34 s35 s36 s37 s38 s39 s40 s41 s42 s43 s44 Q hQ)
  have HN1 := Lib.hid (fr2_1_01 w v0 a1 a2 a3 a4 a5 a6 g1 g2 g3 g4 g5 g6 T m o Htb Hm1 Hm2 s1 s2 s9 s18 s19 s20 s21 s22 s23 s24 s25 s26 s27 s28 s29 s30 s31 s32 s33 s34 s35 s36 s37 s38 s39 s40 s41 s42 s43 s44 Q hQ)
  clear hQ
  have hltw := hHeld.b.lt
  conv => arg 3; arg 1; whnf
  dsimp only [codeOps]
  refine wpAnyH_ready (rs := [4, 8]) (by kernel_rfl) (by simp) ?_
  refine AllReadyH.cons (o := _) rfl (fun K hK => ?_) (AllReadyH.cons (o := _) rfl (fun K hK => ?_) AllReadyH.nil)
  · go_simp
    (go_at_call 29; (with_reducible refine (Hm1 _).mono ?_); rintro e x2 ⟨rfl, hb⟩)
    refine hK.out _ _ (by (first | with_reducible assumption | with_reducible exact Bx12.below (by with_reducible assumption) (by with_reducible assumption) | with_reducible exact Bx12.alloc (by with_reducible assumption) _)) (fun hHeld => ?_)
    clear hK K
    try simp only [List.setIfInBounds_toArray, List.set_cons_zero, List.set_cons_succ]
    exact wpAnyH_listed (by kernel_rfl) (HN0.out _ _ _ _ (by with_reducible assumption) p c (hp.below hb) _ (hz1.below hb hz1.lt) hl1 ho1)
  · go_simp
    refine hK.out _ _ (by (first | with_reducible assumption | with_reducible exact Bx12.below (by with_reducible assumption) (by with_reducible assumption) | with_reducible exact Bx12.alloc (by with_reducible assumption) _)) (fun hHeld => ?_)
    clear hK K
    try simp only [List.setIfInBounds_toArray, List.set_cons_zero, List.set_cons_succ]
    exact wpAnyH_listed (by kernel_rfl) (HN1.out _ _ _ _ (by with_reducible assumption) p c (hp.alloc _) _ (Blk.new _ _ _) hltw (hp.off_size (Nat.le_refl _)) _ (hz1.alloc _) hl1 ho1 (Nat.ne_of_gt hz1.lt))
set_option maxRecDepth 1000000 in
set_option maxHeartbeats 8000000 in
theorem fr2_1_0 (w : World) (v0 : Value) (a1 a2 a3 a4 a5 a6 g1 g2 g3 g4 g5 g6 : Nat) (T : List Pr) (m o : Ms) (Htb : ∀ wr, Bx12 w a1 a2 a3 a4 a5 a6 g1 g2 g3 g4 g5 g6 wr → Calls Tryz.prog 13 #[v0, .int .i64 12] wr (MOut wr T)) (Hm1 : ∀ wr, Calls Tryz.prog 29 #[.agg #[.int .u8 a1, .int .u8 a2, .int .u8 a3, .int .u8 a4, .int .u8 a5, .int .u8 a6]] wr fun e w' => e = .returned (msgV m) ∧ Below wr.heap.size wr w') (Hm2 : ∀ wr, Calls Tryz.prog 29 #[.agg #[.int .u8 g1, .int .u8 g2, .int .u8 g3, .int .u8 g4, .int .u8 g5, .int .u8 g6]] wr fun e w' => e = .returned (msgV o) ∧ Below wr.heap.size wr w') (s1 s2 s9 s18 s19 s20 s21 s22 s23 s24 s25 s26 s27 s28 s29 s30 s31 s32 s33 s34 s35 s36 s37 s38 s39 s40 s41 s42 s43 s44 : Value) (Q : Exit → Act → World → Prop) (hQ : ∀ (u10 u11 u12 u13 u14 u15 u16 u17 : Value) (p : Option Addr) (c : Nat) (b7 b8 : Nat) (wx : World), Lw w [(.slice p T.length c, T)] [(b8, o), (b7, m)] [] wx → Q .normal ⟨#[v0, s1, s2, .pointer (some ⟨w.heap.size, 0, none⟩), .bool false, .bool true, .slice p T.length c, .pointer (some ⟨b7, 0, none⟩), .pointer (some ⟨b8, 0, none⟩), s9, u10, u11, u12, u13, u14, u15, u16, u17, s18, s19, s20, s21, s22, s23, s24, s25, s26, s27, s28, s29, s30, s31, s32, s33, s34, s35, s36, s37, s38, s39, s40, s41, s42, s43, s44], []⟩ wx)
    (s6 s8 s14 s17 : Value) (wx : World) (hHeld : Bx12 w a1 a2 a3 a4 a5 a6 g1 g2 g3 g4 g5 g6 wx) (p : Option Addr) (c : Nat) (hp : IsPairs wx (.slice p T.length c) T) (b7 : Nat) (hz0 : Blk wx b7 34 #[.int .i64 0, .string ⟨#[]⟩, .string ⟨#[]⟩, .string ⟨#[]⟩, .string ⟨#[]⟩, .string ⟨#[]⟩, .string ⟨#[]⟩, .int .i64 0]) (hl0 : w.heap.size < b7) (ho0 : OffB b7 p T) :
    wpAnyH Tryz.prog .any (codeOps fr2R) (NoPanic Q) (fun wr => Bx12 w a1 a2 a3 a4 a5 a6 g1 g2 g3 g4 g5 g6 wr) 6 #[true, true, true, true, false, true, true, false, true, false, false, false, false] ⟨#[v0, s1, s2, .pointer (some ⟨w.heap.size, 0, none⟩), .bool false, .bool true, s6, .pointer (some ⟨b7, 0, none⟩), s8, s9, v0, .slice p T.length c, .pointer (some ⟨w.heap.size, 0, none⟩), .agg #[.int .u8 a1, .int .u8 a2, .int .u8 a3, .int .u8 a4, .int .u8 a5, .int .u8 a6], s14, .pointer (some ⟨w.heap.size, 6, none⟩), .agg #[.int .u8 g1, .int .u8 g2, .int .u8 g3, .int .u8 g4, .int .u8 g5, .int .u8 g6], s17, s18, s19, s20, s21, s22, s23, s24, s25, s26, s27, s28, s29, s30, s31, s32, s33, s34, s35, s36, s37, s38, s39, s40, s41, s42, s43, s44], []⟩ wx := by
  have HN0 := Lib.hid (fr2_2_0 w v0 a1 a2 a3 a4 a5 a6 g1 g2 g3 g4 g5 g6 T m o Htb Hm1 Hm2 s1 s2 s9 s18 s19 s20 s21 s22 s23 s24 s25 s26 s27 s28 s29 s30 s31 s32 s33 s34 s35 s36 s37 s38 s39 s40 s41 s42 s43 s44 Q hQ)
  have HN1 := Lib.hid (fr2_1_01 w v0 a1 a2 a3 a4 a5 a6 g1 g2 g3 g4 g5 g6 T m o Htb Hm1 Hm2 s1 s2 s9 s18 s19 s20 s21 s22 s23 s24 s25 s26 s27 s28 s29 s30 s31 s32 s33 s34 s35 s36 s37 s38 s39 s40 s41 s42 s43 s44 Q hQ)
  clear hQ
  have hltw := hHeld.b.lt
  conv => arg 3; arg 1; whnf
  dsimp only [codeOps]
  refine wpAnyH_ready (rs := [4, 9]) (by kernel_rfl) (by simp) ?_
  refine AllReadyH.cons (o := _) rfl (fun K hK => ?_) (AllReadyH.cons (o := _) rfl (fun K hK => ?_) AllReadyH.nil)
  · go_simp
    (go_at_call 29; (with_reducible refine (Hm1 _).mono ?_); rintro e x2 ⟨rfl, hb⟩)
    refine hK.out _ _ (by (first | with_reducible assumption | with_reducible exact Bx12.below (by with_reducible assumption) (by with_reducible assumption) | with_reducible exact Bx12.alloc (by with_reducible assumption) _)) (fun hHeld => ?_)
    clear hK K
    try simp only [List.setIfInBounds_toArray, List.set_cons_zero, List.set_cons_succ]
    exact wpAnyH_listed (by kernel_rfl) (HN0.out _ _ _ _ (by with_reducible assumption) p c (hp.below hb) _ (hz0.below hb hz0.lt) hl0 ho0)
  · go_simp
    refine hK.out _ _ (by (first | with_reducible assumption | with_reducible exact Bx12.below (by with_reducible assumption) (by with_reducible assumption) | with_reducible exact Bx12.alloc (by with_reducible assumption) _)) (fun hHeld => ?_)
    clear hK K
    try simp only [List.setIfInBounds_toArray, List.set_cons_zero, List.set_cons_succ]
    exact wpAnyH_listed (by kernel_rfl) (HN1.out _ _ _ _ (by with_reducible assumption) p c (hp.alloc _) _ (hz0.alloc _) hl0 ho0 _ (Blk.new _ _ _) hltw (hp.off_size (Nat.le_refl _)) (Nat.ne_of_lt hz0.lt))
set_option maxRecDepth 1000000 in
set_option maxHeartbeats 8000000 in
theorem fr2_1_n (w : World) (v0 : Value) (a1 a2 a3 a4 a5 a6 g1 g2 g3 g4 g5 g6 : Nat) (T : List Pr) (m o : Ms) (Htb : ∀ wr, Bx12 w a1 a2 a3 a4 a5 a6 g1 g2 g3 g4 g5 g6 wr → Calls Tryz.prog 13 #[v0, .int .i64 12] wr (MOut wr T)) (Hm1 : ∀ wr, Calls Tryz.prog 29 #[.agg #[.int .u8 a1, .int .u8 a2, .int .u8 a3, .int .u8 a4, .int .u8 a5, .int .u8 a6]] wr fun e w' => e = .returned (msgV m) ∧ Below wr.heap.size wr w') (Hm2 : ∀ wr, Calls Tryz.prog 29 #[.agg #[.int .u8 g1, .int .u8 g2, .int .u8 g3, .int .u8 g4, .int .u8 g5, .int .u8 g6]] wr fun e w' => e = .returned (msgV o) ∧ Below wr.heap.size wr w') (s1 s2 s9 s18 s19 s20 s21 s22 s23 s24 s25 s26 s27 s28 s29 s30 s31 s32 s33 s34 s35 s36 s37 s38 s39 s40 s41 s42 s43 s44 : Value) (Q : Exit → Act → World → Prop) (hQ : ∀ (u10 u11 u12 u13 u14 u15 u16 u17 : Value) (p : Option Addr) (c : Nat) (b7 b8 : Nat) (wx : World), Lw w [(.slice p T.length c, T)] [(b8, o), (b7, m)] [] wx → Q .normal ⟨#[v0, s1, s2, .pointer (some ⟨w.heap.size, 0, none⟩), .bool false, .bool true, .slice p T.length c, .pointer (some ⟨b7, 0, none⟩), .pointer (some ⟨b8, 0, none⟩), s9, u10, u11, u12, u13, u14, u15, u16, u17, s18, s19, s20, s21, s22, s23, s24, s25, s26, s27, s28, s29, s30, s31, s32, s33, s34, s35, s36, s37, s38, s39, s40, s41, s42, s43, s44], []⟩ wx)
    (s6 s7 s8 s14 s17 : Value) (wx : World) (hHeld : Bx12 w a1 a2 a3 a4 a5 a6 g1 g2 g3 g4 g5 g6 wx) (p : Option Addr) (c : Nat) (hp : IsPairs wx (.slice p T.length c) T) :
    wpAnyH Tryz.prog .any (codeOps fr2R) (NoPanic Q) (fun wr => Bx12 w a1 a2 a3 a4 a5 a6 g1 g2 g3 g4 g5 g6 wr) 7 #[true, true, true, true, false, true, true, false, false, false, false, false, false] ⟨#[v0, s1, s2, .pointer (some ⟨w.heap.size, 0, none⟩), .bool false, .bool true, s6, s7, s8, s9, v0, .slice p T.length c, .pointer (some ⟨w.heap.size, 0, none⟩), .agg #[.int .u8 a1, .int .u8 a2, .int .u8 a3, .int .u8 a4, .int .u8 a5, .int .u8 a6], s14, .pointer (some ⟨w.heap.size, 6, none⟩), .agg #[.int .u8 g1, .int .u8 g2, .int .u8 g3, .int .u8 g4, .int .u8 g5, .int .u8 g6], s17, s18, s19, s20, s21, s22, s23, s24, s25, s26, s27, s28, s29, s30, s31, s32, s33, s34, s35, s36, s37, s38, s39, s40, s41, s42, s43, s44], []⟩ wx := by
  have HN0 := Lib.hid (fr2_2_n w v0 a1 a2 a3 a4 a5 a6 g1 g2 g3 g4 g5 g6 T m o Htb Hm1 Hm2 s1 s2 s9 s18 s19 s20 s21 s22 s23 s24 s25 s26 s27 s28 s29 s30 s31 s32 s33 s34 s35 s36 s37 s38 s39 s40 s41 s42 s43 s44 Q hQ)
  have HN1 := Lib.hid (fr2_1_0 w v0 a1 a2 a3 a4 a5 a6 g1 g2 g3 g4 g5 g6 T m o Htb Hm1 Hm2 s1 s2 s9 s18 s19 s20 s21 s22 s23 s24 s25 s26 s27 s28 s29 s30 s31 s32 s33 s34 s35 s36 s37 s38 s39 s40 s41 s42 s43 s44 Q hQ)
  have HN2 := Lib.hid (fr2_1_1 w v0 a1 a2 a3 a4 a5 a6 g1 g2 g3 g4 g5 g6 T m o Htb Hm1 Hm2 s1 s2 s9 s18 s19 s20 s21 s22 s23 s24 s25 s26 s27 s28 s29 s30 s31 s32 s33 s34 s35 s36 s37 s38 s39 s40 s41 s42 s43 s44 Q hQ)
  clear hQ
  have hltw := hHeld.b.lt
  conv => arg 3; arg 1; whnf
  dsimp only [codeOps]
  refine wpAnyH_ready (rs := [4, 8, 9]) (by kernel_rfl) (by simp) ?_
  refine AllReadyH.cons (o := _) rfl (fun K hK => ?_) (AllReadyH.cons (o := _) rfl (fun K hK => ?_) (AllReadyH.cons (o := _) rfl (fun K hK => ?_) AllReadyH.nil))
  · go_simp
    (go_at_call 29; (with_reducible refine (Hm1 _).mono ?_); rintro e x2 ⟨rfl, hb⟩)
    refine hK.out _ _ (by (first | with_reducible assumption | with_reducible exact Bx12.below (by with_reducible assumption) (by with_reducible assumption) | with_reducible exact Bx12.alloc (by with_reducible assumption) _)) (fun hHeld => ?_)
    clear hK K
    try simp only [List.setIfInBounds_toArray, List.set_cons_zero, List.set_cons_succ]
    exact wpAnyH_listed (by kernel_rfl) (HN0.out _ _ _ _ _ (by with_reducible assumption) p c (hp.below hb))
  · go_simp
    refine hK.out _ _ (by (first | with_reducible assumption | with_reducible exact Bx12.below (by with_reducible assumption) (by with_reducible assumption) | with_reducible exact Bx12.alloc (by with_reducible assumption) _)) (fun hHeld => ?_)
    clear hK K
    try simp only [List.setIfInBounds_toArray, List.set_cons_zero, List.set_cons_succ]
    exact wpAnyH_listed (by kernel_rfl) (HN1.out _ _ _ _ _ (by with_reducible assumption) p c (hp.alloc _) _ (Blk.new _ _ _) hltw (hp.off_size (Nat.le_refl _)))
  · go_simp
    refine hK.out _ _ (by (first | with_reducible assumption | with_reducible exact Bx12.below (by with_reducible assumption) (by with_reducible assumption) | with_reducible exact Bx12.alloc (by with_reducible assumption) _)) (fun hHeld => ?_)
    clear hK K
    try simp only [List.setIfInBounds_toArray, List.set_cons_zero, List.set_cons_succ]
    exact wpAnyH_listed (by kernel_rfl) (HN2.out _ _ _ _ _ (by with_reducible assumption) p c (hp.alloc _) _ (Blk.new _ _ _) hltw (hp.off_size (Nat.le_refl _)))
set_option maxRecDepth 1000000 in
set_option maxHeartbeats 8000000 in
theorem fr2_0_01 (w : World) (v0 : Value) (a1 a2 a3 a4 a5 a6 g1 g2 g3 g4 g5 g6 : Nat) (T : List Pr) (m o : Ms) (Htb : ∀ wr, Bx12 w a1 a2 a3 a4 a5 a6 g1 g2 g3 g4 g5 g6 wr → Calls Tryz.prog 13 #[v0, .int .i64 12] wr (MOut wr T)) (Hm1 : ∀ wr, Calls Tryz.prog 29 #[.agg #[.int .u8 a1, .int .u8 a2, .int .u8 a3, .int .u8 a4, .int .u8 a5, .int .u8 a6]] wr fun e w' => e = .returned (msgV m) ∧ Below wr.heap.size wr w') (Hm2 : ∀ wr, Calls Tryz.prog 29 #[.agg #[.int .u8 g1, .int .u8 g2, .int .u8 g3, .int .u8 g4, .int .u8 g5, .int .u8 g6]] wr fun e w' => e = .returned (msgV o) ∧ Below wr.heap.size wr w') (s1 s2 s9 s18 s19 s20 s21 s22 s23 s24 s25 s26 s27 s28 s29 s30 s31 s32 s33 s34 s35 s36 s37 s38 s39 s40 s41 s42 s43 s44 : Value) (Q : Exit → Act → World → Prop) (hQ : ∀ (u10 u11 u12 u13 u14 u15 u16 u17 : Value) (p : Option Addr) (c : Nat) (b7 b8 : Nat) (wx : World), Lw w [(.slice p T.length c, T)] [(b8, o), (b7, m)] [] wx → Q .normal ⟨#[v0, s1, s2, .pointer (some ⟨w.heap.size, 0, none⟩), .bool false, .bool true, .slice p T.length c, .pointer (some ⟨b7, 0, none⟩), .pointer (some ⟨b8, 0, none⟩), s9, u10, u11, u12, u13, u14, u15, u16, u17, s18, s19, s20, s21, s22, s23, s24, s25, s26, s27, s28, s29, s30, s31, s32, s33, s34, s35, s36, s37, s38, s39, s40, s41, s42, s43, s44], []⟩ wx)
    (s6 s11 s14 s17 : Value) (wx : World) (hHeld : Bx12 w a1 a2 a3 a4 a5 a6 g1 g2 g3 g4 g5 g6 wx) (b7 : Nat) (hz0 : Blk wx b7 34 #[.int .i64 0, .string ⟨#[]⟩, .string ⟨#[]⟩, .string ⟨#[]⟩, .string ⟨#[]⟩, .string ⟨#[]⟩, .string ⟨#[]⟩, .int .i64 0]) (hl0 : w.heap.size < b7) (b8 : Nat) (hz1 : Blk wx b8 34 #[.int .i64 0, .string ⟨#[]⟩, .string ⟨#[]⟩, .string ⟨#[]⟩, .string ⟨#[]⟩, .string ⟨#[]⟩, .string ⟨#[]⟩, .int .i64 0]) (hl1 : w.heap.size < b8) (hn01 : b7 ≠ b8) :
    wpAnyH Tryz.prog .any (codeOps fr2R) (NoPanic Q) (fun wr => Bx12 w a1 a2 a3 a4 a5 a6 g1 g2 g3 g4 g5 g6 wr) 6 #[true, false, true, true, false, true, true, false, true, true, false, false, false] ⟨#[v0, s1, s2, .pointer (some ⟨w.heap.size, 0, none⟩), .bool false, .bool true, s6, .pointer (some ⟨b7, 0, none⟩), .pointer (some ⟨b8, 0, none⟩), s9, v0, s11, .pointer (some ⟨w.heap.size, 0, none⟩), .agg #[.int .u8 a1, .int .u8 a2, .int .u8 a3, .int .u8 a4, .int .u8 a5, .int .u8 a6], s14, .pointer (some ⟨w.heap.size, 6, none⟩), .agg #[.int .u8 g1, .int .u8 g2, .int .u8 g3, .int .u8 g4, .int .u8 g5, .int .u8 g6], s17, s18, s19, s20, s21, s22, s23, s24, s25, s26, s27, s28, s29, s30, s31, s32, s33, s34, s35, s36, s37, s38, s39, s40, s41, s42, s43, s44], []⟩ wx := by
  have HN0 := Lib.hid (fr2_1_01 w v0 a1 a2 a3 a4 a5 a6 g1 g2 g3 g4 g5 g6 T m o Htb Hm1 Hm2 s1 s2 s9 s18 s19 s20 s21 s22 s23 s24 s25 s26 s27 s28 s29 s30 s31 s32 s33 s34 s35 s36 s37 s38 s39 s40 s41 s42 s43 s44 Q hQ)
  clear hQ
  have hltw := hHeld.b.lt
  conv => arg 3; arg 1; whnf
  dsimp only [codeOps]
  refine wpAnyH_ready (rs := [1]) (by kernel_rfl) (by simp) ?_
  refine AllReadyH.cons (o := _) rfl (fun K hK => ?_) AllReadyH.nil
  · go_simp
    (go_at_call 13; (with_reducible refine (Htb _ hHeld).mono ?_); rintro e x2 ⟨p, c, rfl, hp, ho, hb⟩)
    refine hK.out _ _ (by (first | with_reducible assumption | with_reducible exact Bx12.below (by with_reducible assumption) (by with_reducible assumption) | with_reducible exact Bx12.alloc (by with_reducible assumption) _)) (fun hHeld => ?_)
    clear hK K
    try simp only [List.setIfInBounds_toArray, List.set_cons_zero, List.set_cons_succ]
    exact wpAnyH_listed (by kernel_rfl) (HN0.out _ _ _ _ (by with_reducible assumption) p c hp _ (hz0.below hb hz0.lt) hl0 (ho _ hz0.lt) _ (hz1.below hb hz1.lt) hl1 (ho _ hz1.lt) hn01)
set_option maxRecDepth 1000000 in
set_option maxHeartbeats 8000000 in
theorem fr2_0_1 (w : World) (v0 : Value) (a1 a2 a3 a4 a5 a6 g1 g2 g3 g4 g5 g6 : Nat) (T : List Pr) (m o : Ms) (Htb : ∀ wr, Bx12 w a1 a2 a3 a4 a5 a6 g1 g2 g3 g4 g5 g6 wr → Calls Tryz.prog 13 #[v0, .int .i64 12] wr (MOut wr T)) (Hm1 : ∀ wr, Calls Tryz.prog 29 #[.agg #[.int .u8 a1, .int .u8 a2, .int .u8 a3, .int .u8 a4, .int .u8 a5, .int .u8 a6]] wr fun e w' => e = .returned (msgV m) ∧ Below wr.heap.size wr w') (Hm2 : ∀ wr, Calls Tryz.prog 29 #[.agg #[.int .u8 g1, .int .u8 g2, .int .u8 g3, .int .u8 g4, .int .u8 g5, .int .u8 g6]] wr fun e w' => e = .returned (msgV o) ∧ Below wr.heap.size wr w') (s1 s2 s9 s18 s19 s20 s21 s22 s23 s24 s25 s26 s27 s28 s29 s30 s31 s32 s33 s34 s35 s36 s37 s38 s39 s40 s41 s42 s43 s44 : Value) (Q : Exit → Act → World → Prop) (hQ : ∀ (u10 u11 u12 u13 u14 u15 u16 u17 : Value) (p : Option Addr) (c : Nat) (b7 b8 : Nat) (wx : World), Lw w [(.slice p T.length c, T)] [(b8, o), (b7, m)] [] wx → Q .normal ⟨#[v0, s1, s2, .pointer (some ⟨w.heap.size, 0, none⟩), .bool false, .bool true, .slice p T.length c, .pointer (some ⟨b7, 0, none⟩), .pointer (some ⟨b8, 0, none⟩), s9, u10, u11, u12, u13, u14, u15, u16, u17, s18, s19, s20, s21, s22, s23, s24, s25, s26, s27, s28, s29, s30, s31, s32, s33, s34, s35, s36, s37, s38, s39, s40, s41, s42, s43, s44], []⟩ wx)
    (s6 s7 s11 s14 s17 : Value) (wx : World) (hHeld : Bx12 w a1 a2 a3 a4 a5 a6 g1 g2 g3 g4 g5 g6 wx) (b8 : Nat) (hz1 : Blk wx b8 34 #[.int .i64 0, .string ⟨#[]⟩, .string ⟨#[]⟩, .string ⟨#[]⟩, .string ⟨#[]⟩, .string ⟨#[]⟩, .string ⟨#[]⟩, .int .i64 0]) (hl1 : w.heap.size < b8) :
    wpAnyH Tryz.prog .any (codeOps fr2R) (NoPanic Q) (fun wr => Bx12 w a1 a2 a3 a4 a5 a6 g1 g2 g3 g4 g5 g6 wr) 7 #[true, false, true, true, false, true, true, false, false, true, false, false, false] ⟨#[v0, s1, s2, .pointer (some ⟨w.heap.size, 0, none⟩), .bool false, .bool true, s6, s7, .pointer (some ⟨b8, 0, none⟩), s9, v0, s11, .pointer (some ⟨w.heap.size, 0, none⟩), .agg #[.int .u8 a1, .int .u8 a2, .int .u8 a3, .int .u8 a4, .int .u8 a5, .int .u8 a6], s14, .pointer (some ⟨w.heap.size, 6, none⟩), .agg #[.int .u8 g1, .int .u8 g2, .int .u8 g3, .int .u8 g4, .int .u8 g5, .int .u8 g6], s17, s18, s19, s20, s21, s22, s23, s24, s25, s26, s27, s28, s29, s30, s31, s32, s33, s34, s35, s36, s37, s38, s39, s40, s41, s42, s43, s44], []⟩ wx := by
  have HN0 := Lib.hid (fr2_1_1 w v0 a1 a2 a3 a4 a5 a6 g1 g2 g3 g4 g5 g6 T m o Htb Hm1 Hm2 s1 s2 s9 s18 s19 s20 s21 s22 s23 s24 s25 s26 s27 s28 s29 s30 s31 s32 s33 s34 s35 s36 s37 s38 s39 s40 s41 s42 s43 s44 Q hQ)
  have HN1 := Lib.hid (fr2_0_01 w v0 a1 a2 a3 a4 a5 a6 g1 g2 g3 g4 g5 g6 T m o Htb Hm1 Hm2 s1 s2 s9 s18 s19 s20 s21 s22 s23 s24 s25 s26 s27 s28 s29 s30 s31 s32 s33 s34 s35 s36 s37 s38 s39 s40 s41 s42 s43 s44 Q hQ)
  clear hQ
  have hltw := hHeld.b.lt
  conv => arg 3; arg 1; whnf
  dsimp only [codeOps]
  refine wpAnyH_ready (rs := [1, 8]) (by kernel_rfl) (by simp) ?_
  refine AllReadyH.cons (o := _) rfl (fun K hK => ?_) (AllReadyH.cons (o := _) rfl (fun K hK => ?_) AllReadyH.nil)
  · go_simp
    (go_at_call 13; (with_reducible refine (Htb _ hHeld).mono ?_); rintro e x2 ⟨p, c, rfl, hp, ho, hb⟩)
    refine hK.out _ _ (by (first | with_reducible assumption | with_reducible exact Bx12.below (by with_reducible assumption) (by with_reducible assumption) | with_reducible exact Bx12.alloc (by with_reducible assumption) _)) (fun hHeld => ?_)
    clear hK K
    try simp only [List.setIfInBounds_toArray, List.set_cons_zero, List.set_cons_succ]
    exact wpAnyH_listed (by kernel_rfl) (HN0.out _ _ _ _ _ (by with_reducible assumption) p c hp _ (hz1.below hb hz1.lt) hl1 (ho _ hz1.lt))
  · go_simp
    refine hK.out _ _ (by (first | with_reducible assumption | with_reducible exact Bx12.below (by with_reducible assumption) (by with_reducible assumption) | with_reducible exact Bx12.alloc (by with_reducible assumption) _)) (fun hHeld => ?_)
    clear hK K
    try simp only [List.setIfInBounds_toArray, List.set_cons_zero, List.set_cons_succ]
    exact wpAnyH_listed (by kernel_rfl) (HN1.out _ _ _ _ _ (by with_reducible assumption) _ (Blk.new _ _ _) hltw _ (hz1.alloc _) hl1 (Nat.ne_of_gt hz1.lt))
set_option maxRecDepth 1000000 in
set_option maxHeartbeats 8000000 in
theorem fr2_0_0 (w : World) (v0 : Value) (a1 a2 a3 a4 a5 a6 g1 g2 g3 g4 g5 g6 : Nat) (T : List Pr) (m o : Ms) (Htb : ∀ wr, Bx12 w a1 a2 a3 a4 a5 a6 g1 g2 g3 g4 g5 g6 wr → Calls Tryz.prog 13 #[v0, .int .i64 12] wr (MOut wr T)) (Hm1 : ∀ wr, Calls Tryz.prog 29 #[.agg #[.int .u8 a1, .int .u8 a2, .int .u8 a3, .int .u8 a4, .int .u8 a5, .int .u8 a6]] wr fun e w' => e = .returned (msgV m) ∧ Below wr.heap.size wr w') (Hm2 : ∀ wr, Calls Tryz.prog 29 #[.agg #[.int .u8 g1, .int .u8 g2, .int .u8 g3, .int .u8 g4, .int .u8 g5, .int .u8 g6]] wr fun e w' => e = .returned (msgV o) ∧ Below wr.heap.size wr w') (s1 s2 s9 s18 s19 s20 s21 s22 s23 s24 s25 s26 s27 s28 s29 s30 s31 s32 s33 s34 s35 s36 s37 s38 s39 s40 s41 s42 s43 s44 : Value) (Q : Exit → Act → World → Prop) (hQ : ∀ (u10 u11 u12 u13 u14 u15 u16 u17 : Value) (p : Option Addr) (c : Nat) (b7 b8 : Nat) (wx : World), Lw w [(.slice p T.length c, T)] [(b8, o), (b7, m)] [] wx → Q .normal ⟨#[v0, s1, s2, .pointer (some ⟨w.heap.size, 0, none⟩), .bool false, .bool true, .slice p T.length c, .pointer (some ⟨b7, 0, none⟩), .pointer (some ⟨b8, 0, none⟩), s9, u10, u11, u12, u13, u14, u15, u16, u17, s18, s19, s20, s21, s22, s23, s24, s25, s26, s27, s28, s29, s30, s31, s32, s33, s34, s35, s36, s37, s38, s39, s40, s41, s42, s43, s44], []⟩ wx)
    (s6 s8 s11 s14 s17 : Value) (wx : World) (hHeld : Bx12 w a1 a2 a3 a4 a5 a6 g1 g2 g3 g4 g5 g6 wx) (b7 : Nat) (hz0 : Blk wx b7 34 #[.int .i64 0, .string ⟨#[]⟩, .string ⟨#[]⟩, .string ⟨#[]⟩, .string ⟨#[]⟩, .string ⟨#[]⟩, .string ⟨#[]⟩, .int .i64 0]) (hl0 : w.heap.size < b7) :
    wpAnyH Tryz.prog .any (codeOps fr2R) (NoPanic Q) (fun wr => Bx12 w a1 a2 a3 a4 a5 a6 g1 g2 g3 g4 g5 g6 wr) 7 #[true, false, true, true, false, true, true, false, true, false, false, false, false] ⟨#[v0, s1, s2, .pointer (some ⟨w.heap.size, 0, none⟩), .bool false, .bool true, s6, .pointer (some ⟨b7, 0, none⟩), s8, s9, v0, s11, .pointer (some ⟨w.heap.size, 0, none⟩), .agg #[.int .u8 a1, .int .u8 a2, .int .u8 a3, .int .u8 a4, .int .u8 a5, .int .u8 a6], s14, .pointer (some ⟨w.heap.size, 6, none⟩), .agg #[.int .u8 g1, .int .u8 g2, .int .u8 g3, .int .u8 g4, .int .u8 g5, .int .u8 g6], s17, s18, s19, s20, s21, s22, s23, s24, s25, s26, s27, s28, s29, s30, s31, s32, s33, s34, s35, s36, s37, s38, s39, s40, s41, s42, s43, s44], []⟩ wx := by
  have HN0 := Lib.hid (fr2_1_0 w v0 a1 a2 a3 a4 a5 a6 g1 g2 g3 g4 g5 g6 T m o Htb Hm1 Hm2 s1 s2 s9 s18 s19 s20 s21 s22 s23 s24 s25 s26 s27 s28 s29 s30 s31 s32 s33 s34 s35 s36 s37 s38 s39 s40 s41 s42 s43 s44 Q hQ)
  have HN1 := Lib.hid (fr2_0_01 w v0 a1 a2 a3 a4 a5 a6 g1 g2 g3 g4 g5 g6 T m o Htb Hm1 Hm2 s1 s2 s9 s18 s19 s20 s21 s22 s23 s24 s25 s26 s27 s28 s29 s30 s31 s32 s33 s34 s35 s36 s37 s38 s39 s40 s41 s42 s43 s44 Q hQ)
  clear hQ
  have hltw := hHeld.b.lt
  conv => arg 3; arg 1; whnf
  dsimp only [codeOps]
  refine wpAnyH_ready (rs := [1, 9]) (by kernel_rfl) (by simp) ?_
  refine AllReadyH.cons (o := _) rfl (fun K hK => ?_) (AllReadyH.cons (o := _) rfl (fun K hK => ?_) AllReadyH.nil)
  · go_simp
    (go_at_call 13; (with_reducible refine (Htb _ hHeld).mono ?_); rintro e x2 ⟨p, c, rfl, hp, ho, hb⟩)
    refine hK.out _ _ (by (first | with_reducible assumption | with_reducible exact Bx12.below (by with_reducible assumption) (by with_reducible assumption) | with_reducible exact Bx12.alloc (by with_reducible assumption) _)) (fun hHeld => ?_)
    clear hK K
    try simp only [List.setIfInBounds_toArray, List.set_cons_zero, List.set_cons_succ]
    exact wpAnyH_listed (by kernel_rfl) (HN0.out _ _ _ _ _ (by with_reducible assumption) p c hp _ (hz0.below hb hz0.lt) hl0 (ho _ hz0.lt))
  · go_simp
    refine hK.out _ _ (by (first | with_reducible assumption | with_reducible exact Bx12.below (by with_reducible assumption) (by with_reducible assumption) | with_reducible exact Bx12.alloc (by with_reducible assumption) _)) (fun hHeld => ?_)
    clear hK K
    try simp only [List.setIfInBounds_toArray, List.set_cons_zero, List.set_cons_succ]
    exact wpAnyH_listed (by kernel_rfl) (HN1.out _ _ _ _ _ (by with_reducible assumption) _ (hz0.alloc _) hl0 _ (Blk.new _ _ _) hltw (Nat.ne_of_lt hz0.lt))
set_option maxRecDepth 1000000 in
set_option maxHeartbeats 8000000 in
theorem fr2_0_n (w : World) (v0 : Value) (a1 a2 a3 a4 a5 a6 g1 g2 g3 g4 g5 g6 : Nat) (T : List Pr) (m o : Ms) (Htb : ∀ wr, Bx12 w a1 a2 a3 a4 a5 a6 g1 g2 g3 g4 g5 g6 wr → Calls Tryz.prog 13 #[v0, .int .i64 12] wr (MOut wr T)) (Hm1 : ∀ wr, Calls Tryz.prog 29 #[.agg #[.int .u8 a1, .int .u8 a2, .int .u8 a3, .int .u8 a4, .int .u8 a5, .int .u8 a6]] wr fun e w' => e = .returned (msgV m) ∧ Below wr.heap.size wr w') (Hm2 : ∀ wr, Calls Tryz.prog 29 #[.agg #[.int .u8 g1, .int .u8 g2, .int .u8 g3, .int .u8 g4, .int .u8 g5, .int .u8 g6]] wr fun e w' => e = .returned (msgV o) ∧ Below wr.heap.size wr w') (s1 s2 s9 s18 s19 s20 s21 s22 s23 s24 s25 s26 s27 s28 s29 s30 s31 s32 s33 s34 s35 s36 s37 s38 s39 s40 s41 s42 s43 s44 : Value) (Q : Exit → Act → World → Prop) (hQ : ∀ (u10 u11 u12 u13 u14 u15 u16 u17 : Value) (p : Option Addr) (c : Nat) (b7 b8 : Nat) (wx : World), Lw w [(.slice p T.length c, T)] [(b8, o), (b7, m)] [] wx → Q .normal ⟨#[v0, s1, s2, .pointer (some ⟨w.heap.size, 0, none⟩), .bool false, .bool true, .slice p T.length c, .pointer (some ⟨b7, 0, none⟩), .pointer (some ⟨b8, 0, none⟩), s9, u10, u11, u12, u13, u14, u15, u16, u17, s18, s19, s20, s21, s22, s23, s24, s25, s26, s27, s28, s29, s30, s31, s32, s33, s34, s35, s36, s37, s38, s39, s40, s41, s42, s43, s44], []⟩ wx)
    (s6 s7 s8 s11 s14 s17 : Value) (wx : World) (hHeld : Bx12 w a1 a2 a3 a4 a5 a6 g1 g2 g3 g4 g5 g6 wx)  :
    wpAnyH Tryz.prog .any (codeOps fr2R) (NoPanic Q) (fun wr => Bx12 w a1 a2 a3 a4 a5 a6 g1 g2 g3 g4 g5 g6 wr) 8 #[true, false, true, true, false, true, true, false, false, false, false, false, false] ⟨#[v0, s1, s2, .pointer (some ⟨w.heap.size, 0, none⟩), .bool false, .bool true, s6, s7, s8, s9, v0, s11, .pointer (some ⟨w.heap.size, 0, none⟩), .agg #[.int .u8 a1, .int .u8 a2, .int .u8 a3, .int .u8 a4, .int .u8 a5, .int .u8 a6], s14, .pointer (some ⟨w.heap.size, 6, none⟩), .agg #[.int .u8 g1, .int .u8 g2, .int .u8 g3, .int .u8 g4, .int .u8 g5, .int .u8 g6], s17, s18, s19, s20, s21, s22, s23, s24, s25, s26, s27, s28, s29, s30, s31, s32, s33, s34, s35, s36, s37, s38, s39, s40, s41, s42, s43, s44], []⟩ wx := by
  have HN0 := Lib.hid (fr2_1_n w v0 a1 a2 a3 a4 a5 a6 g1 g2 g3 g4 g5 g6 T m o Htb Hm1 Hm2 s1 s2 s9 s18 s19 s20 s21 s22 s23 s24 s25 s26 s27 s28 s29 s30 s31 s32 s33 s34 s35 s36 s37 s38 s39 s40 s41 s42 s43 s44 Q hQ)
  have HN1 := Lib.hid (fr2_0_0 w v0 a1 a2 a3 a4 a5 a6 g1 g2 g3 g4 g5 g6 T m o Htb Hm1 Hm2 s1 s2 s9 s18 s19 s20 s21 s22 s23 s24 s25 s26 s27 s28 s29 s30 s31 s32 s33 s34 s35 s36 s37 s38 s39 s40 s41 s42 s43 s44 Q hQ)
  have HN2 := Lib.hid (fr2_0_1 w v0 a1 a2 a3 a4 a5 a6 g1 g2 g3 g4 g5 g6 T m o Htb Hm1 Hm2 s1 s2 s9 s18 s19 s20 s21 s22 s23 s24 s25 s26 s27 s28 s29 s30 s31 s32 s33 s34 s35 s36 s37 s38 s39 s40 s41 s42 s43 s44 Q hQ)
  clear hQ
  have hltw := hHeld.b.lt
  conv => arg 3; arg 1; whnf
  dsimp only [codeOps]
  refine wpAnyH_ready (rs := [1, 8, 9]) (by kernel_rfl) (by simp) ?_
  refine AllReadyH.cons (o := _) rfl (fun K hK => ?_) (AllReadyH.cons (o := _) rfl (fun K hK => ?_) (AllReadyH.cons (o := _) rfl (fun K hK => ?_) AllReadyH.nil))
  · go_simp
    (go_at_call 13; (with_reducible refine (Htb _ hHeld).mono ?_); rintro e x2 ⟨p, c, rfl, hp, ho, hb⟩)
    refine hK.out _ _ (by (first | with_reducible assumption | with_reducible exact Bx12.below (by with_reducible assumption) (by with_reducible assumption) | with_reducible exact Bx12.alloc (by with_reducible assumption) _)) (fun hHeld => ?_)
    clear hK K
    try simp only [List.setIfInBounds_toArray, List.set_cons_zero, List.set_cons_succ]
    exact wpAnyH_listed (by kernel_rfl) (HN0.out _ _ _ _ _ _ (by with_reducible assumption) p c hp)
  · go_simp
    refine hK.out _ _ (by (first | with_reducible assumption | with_reducible exact Bx12.below (by with_reducible assumption) (by with_reducible assumption) | with_reducible exact Bx12.alloc (by with_reducible assumption) _)) (fun hHeld => ?_)
    clear hK K
    try simp only [List.setIfInBounds_toArray, List.set_cons_zero, List.set_cons_succ]
    exact wpAnyH_listed (by kernel_rfl) (HN1.out _ _ _ _ _ _ (by with_reducible assumption) _ (Blk.new _ _ _) hltw)
  · go_simp
    refine hK.out _ _ (by (first | with_reducible assumption | with_reducible exact Bx12.below (by with_reducible assumption) (by with_reducible assumption) | with_reducible exact Bx12.alloc (by with_reducible assumption) _)) (fun hHeld => ?_)
    clear hK K
    try simp only [List.setIfInBounds_toArray, List.set_cons_zero, List.set_cons_succ]
    exact wpAnyH_listed (by kernel_rfl) (HN2.out _ _ _ _ _ _ (by with_reducible assumption) _ (Blk.new _ _ _) hltw)
set_option maxRecDepth 1000000 in
set_option maxHeartbeats 8000000 in
theorem fr2_s (w : World) (v0 : Value) (a1 a2 a3 a4 a5 a6 g1 g2 g3 g4 g5 g6 : Nat) (T : List Pr) (m o : Ms) (Htb : ∀ wr, Bx12 w a1 a2 a3 a4 a5 a6 g1 g2 g3 g4 g5 g6 wr → Calls Tryz.prog 13 #[v0, .int .i64 12] wr (MOut wr T)) (Hm1 : ∀ wr, Calls Tryz.prog 29 #[.agg #[.int .u8 a1, .int .u8 a2, .int .u8 a3, .int .u8 a4, .int .u8 a5, .int .u8 a6]] wr fun e w' => e = .returned (msgV m) ∧ Below wr.heap.size wr w') (Hm2 : ∀ wr, Calls Tryz.prog 29 #[.agg #[.int .u8 g1, .int .u8 g2, .int .u8 g3, .int .u8 g4, .int .u8 g5, .int .u8 g6]] wr fun e w' => e = .returned (msgV o) ∧ Below wr.heap.size wr w') (s1 s2 s9 s18 s19 s20 s21 s22 s23 s24 s25 s26 s27 s28 s29 s30 s31 s32 s33 s34 s35 s36 s37 s38 s39 s40 s41 s42 s43 s44 : Value) (Q : Exit → Act → World → Prop) (hQ : ∀ (u10 u11 u12 u13 u14 u15 u16 u17 : Value) (p : Option Addr) (c : Nat) (b7 b8 : Nat) (wx : World), Lw w [(.slice p T.length c, T)] [(b8, o), (b7, m)] [] wx → Q .normal ⟨#[v0, s1, s2, .pointer (some ⟨w.heap.size, 0, none⟩), .bool false, .bool true, .slice p T.length c, .pointer (some ⟨b7, 0, none⟩), .pointer (some ⟨b8, 0, none⟩), s9, u10, u11, u12, u13, u14, u15, u16, u17, s18, s19, s20, s21, s22, s23, s24, s25, s26, s27, s28, s29, s30, s31, s32, s33, s34, s35, s36, s37, s38, s39, s40, s41, s42, s43, s44], []⟩ wx)
    (s6 s7 s8 s10 s11 s12 s13 s14 s15 s16 s17 : Value) (wx : World) (hHeld : Bx12 w a1 a2 a3 a4 a5 a6 g1 g2 g3 g4 g5 g6 wx)  :
    wpAnyH Tryz.prog .any (codeOps fr2R) (NoPanic Q) (fun wr => Bx12 w a1 a2 a3 a4 a5 a6 g1 g2 g3 g4 g5 g6 wr) 13 #[false, false, false, false, false, false, false, false, false, false, false, false, false] ⟨#[v0, s1, s2, .pointer (some ⟨w.heap.size, 0, none⟩), .bool false, .bool true, s6, s7, s8, s9, s10, s11, s12, s13, s14, s15, s16, s17, s18, s19, s20, s21, s22, s23, s24, s25, s26, s27, s28, s29, s30, s31, s32, s33, s34, s35, s36, s37, s38, s39, s40, s41, s42, s43, s44], []⟩ wx := by
  have HN0 := Lib.hid (fr2_0_n w v0 a1 a2 a3 a4 a5 a6 g1 g2 g3 g4 g5 g6 T m o Htb Hm1 Hm2 s1 s2 s9 s18 s19 s20 s21 s22 s23 s24 s25 s26 s27 s28 s29 s30 s31 s32 s33 s34 s35 s36 s37 s38 s39 s40 s41 s42 s43 s44 Q hQ)
  clear hQ
  conv => arg 3; arg 1; whnf
  dsimp only [codeOps]
  have q0 : ∀ wr, Bx12 w a1 a2 a3 a4 a5 a6 g1 g2 g3 g4 g5 g6 wr → wr.cell? ⟨w.heap.size, 0, none⟩ = some (.int .u8 a1) := fun wr h => h.b.c0 0 _ rfl
  have q1 : ∀ wr, Bx12 w a1 a2 a3 a4 a5 a6 g1 g2 g3 g4 g5 g6 wr → wr.cell? ⟨w.heap.size, 1, none⟩ = some (.int .u8 a2) := fun wr h => h.b.c0 1 _ rfl
  have q2 : ∀ wr, Bx12 w a1 a2 a3 a4 a5 a6 g1 g2 g3 g4 g5 g6 wr → wr.cell? ⟨w.heap.size, 2, none⟩ = some (.int .u8 a3) := fun wr h => h.b.c0 2 _ rfl
  have q3 : ∀ wr, Bx12 w a1 a2 a3 a4 a5 a6 g1 g2 g3 g4 g5 g6 wr → wr.cell? ⟨w.heap.size, 3, none⟩ = some (.int .u8 a4) := fun wr h => h.b.c0 3 _ rfl
  have q4 : ∀ wr, Bx12 w a1 a2 a3 a4 a5 a6 g1 g2 g3 g4 g5 g6 wr → wr.cell? ⟨w.heap.size, 4, none⟩ = some (.int .u8 a5) := fun wr h => h.b.c0 4 _ rfl
  have q5 : ∀ wr, Bx12 w a1 a2 a3 a4 a5 a6 g1 g2 g3 g4 g5 g6 wr → wr.cell? ⟨w.heap.size, 5, none⟩ = some (.int .u8 a6) := fun wr h => h.b.c0 5 _ rfl
  have q6 : ∀ wr, Bx12 w a1 a2 a3 a4 a5 a6 g1 g2 g3 g4 g5 g6 wr → wr.cell? ⟨w.heap.size, 6, none⟩ = some (.int .u8 g1) := fun wr h => h.b.c0 6 _ rfl
  have q7 : ∀ wr, Bx12 w a1 a2 a3 a4 a5 a6 g1 g2 g3 g4 g5 g6 wr → wr.cell? ⟨w.heap.size, 7, none⟩ = some (.int .u8 g2) := fun wr h => h.b.c0 7 _ rfl
  have q8 : ∀ wr, Bx12 w a1 a2 a3 a4 a5 a6 g1 g2 g3 g4 g5 g6 wr → wr.cell? ⟨w.heap.size, 8, none⟩ = some (.int .u8 g3) := fun wr h => h.b.c0 8 _ rfl
  have q9 : ∀ wr, Bx12 w a1 a2 a3 a4 a5 a6 g1 g2 g3 g4 g5 g6 wr → wr.cell? ⟨w.heap.size, 9, none⟩ = some (.int .u8 g4) := fun wr h => h.b.c0 9 _ rfl
  have q10 : ∀ wr, Bx12 w a1 a2 a3 a4 a5 a6 g1 g2 g3 g4 g5 g6 wr → wr.cell? ⟨w.heap.size, 10, none⟩ = some (.int .u8 g5) := fun wr h => h.b.c0 10 _ rfl
  have q11 : ∀ wr, Bx12 w a1 a2 a3 a4 a5 a6 g1 g2 g3 g4 g5 g6 wr → wr.cell? ⟨w.heap.size, 11, none⟩ = some (.int .u8 g6) := fun wr h => h.b.c0 11 _ rfl
  refine wpAnyH_take (i := 0) (oi := _) (v := ?_) rfl (by kernel_rfl) (by kernel_rfl) (by kernel_rfl) (fun _ _ _ h => h) (Or.inl ⟨by rfl, ?_⟩) (by with_reducible assumption) ?_
  rotate_left
  · intro wt hSw
    go_simp
    all_goals with_reducible rfl
  try simp only [Act.put, List.setIfInBounds_toArray, List.set_cons_zero]
  refine wpAnyH_take (i := 2) (oi := _) (v := ?_) rfl (by kernel_rfl) (by kernel_rfl) (by kernel_rfl) (fun _ _ _ h => h) (Or.inl ⟨by rfl, ?_⟩) (by with_reducible assumption) ?_
  rotate_left
  · intro wt hSw
    go_simp
    all_goals with_reducible rfl
  try simp only [Act.put, List.setIfInBounds_toArray, List.set_cons_zero, List.set_cons_succ]
  refine wpAnyH_take (i := 3) (oi := _) (v := ?_) rfl (by kernel_rfl) (by kernel_rfl) (by kernel_rfl) (fun _ _ _ h => h) (Or.inl ⟨by rfl, ?_⟩) (by with_reducible assumption) ?_
  rotate_left
  · intro wt hSw
    go_simp
    all_goals with_reducible rfl
  try simp only [Act.put, List.setIfInBounds_toArray, List.set_cons_zero, List.set_cons_succ]
  refine wpAnyH_take (i := 5) (oi := _) (v := ?_) rfl (by kernel_rfl) (by kernel_rfl) (by kernel_rfl) (fun _ _ _ h => h) (Or.inl ⟨by rfl, ?_⟩) (by with_reducible assumption) ?_
  rotate_left
  · intro wt hSw
    go_simp
    all_goals with_reducible rfl
  try simp only [Act.put, List.setIfInBounds_toArray, List.set_cons_zero, List.set_cons_succ]
  refine wpAnyH_take (i := 6) (oi := _) (v := ?_) rfl (by kernel_rfl) (by kernel_rfl) (by kernel_rfl) (fun _ _ _ h => h) (Or.inl ⟨by rfl, ?_⟩) (by with_reducible assumption) ?_
  rotate_left
  · intro wt hSw
    go_simp
    all_goals with_reducible rfl
  try simp only [Act.put, List.setIfInBounds_toArray, List.set_cons_zero, List.set_cons_succ]
  exact wpAnyH_listed (by kernel_rfl) (HN0.out _ _ _ _ _ _ _ (by with_reducible assumption))
set_option maxRecDepth 1000000 in
set_option maxHeartbeats 8000000 in
theorem fr2_w (w : World) (v0 : Value) (a1 a2 a3 a4 a5 a6 g1 g2 g3 g4 g5 g6 : Nat) (T : List Pr) (m o : Ms) (Htb : ∀ wr, Bx12 w a1 a2 a3 a4 a5 a6 g1 g2 g3 g4 g5 g6 wr → Calls Tryz.prog 13 #[v0, .int .i64 12] wr (MOut wr T)) (Hm1 : ∀ wr, Calls Tryz.prog 29 #[.agg #[.int .u8 a1, .int .u8 a2, .int .u8 a3, .int .u8 a4, .int .u8 a5, .int .u8 a6]] wr fun e w' => e = .returned (msgV m) ∧ Below wr.heap.size wr w') (Hm2 : ∀ wr, Calls Tryz.prog 29 #[.agg #[.int .u8 g1, .int .u8 g2, .int .u8 g3, .int .u8 g4, .int .u8 g5, .int .u8 g6]] wr fun e w' => e = .returned (msgV o) ∧ Below wr.heap.size wr w') (wa : World) (hS : Bx12 w a1 a2 a3 a4 a5 a6 g1 g2 g3 g4 g5 g6 wa) (s1 s2 s6 s7 s8 s9 s10 s11 s12 s13 s14 s15 s16 s17 s18 s19 s20 s21 s22 s23 s24 s25 s26 s27 s28 s29 s30 s31 s32 s33 s34 s35 s36 s37 s38 s39 s40 s41 s42 s43 s44 : Value) (Q : Exit → Act → World → Prop)
    (hQ : ∀ (u10 u11 u12 u13 u14 u15 u16 u17 : Value) (p : Option Addr) (c : Nat) (b7 b8 : Nat) (wx : World), Lw w [(.slice p T.length c, T)] [(b8, o), (b7, m)] [] wx → Q .normal ⟨#[v0, s1, s2, .pointer (some ⟨w.heap.size, 0, none⟩), .bool false, .bool true, .slice p T.length c, .pointer (some ⟨b7, 0, none⟩), .pointer (some ⟨b8, 0, none⟩), s9, u10, u11, u12, u13, u14, u15, u16, u17, s18, s19, s20, s21, s22, s23, s24, s25, s26, s27, s28, s29, s30, s31, s32, s33, s34, s35, s36, s37, s38, s39, s40, s41, s42, s43, s44], []⟩ wx) :
    fr2R.wp Tryz.prog Q ⟨#[v0, s1, s2, .pointer (some ⟨w.heap.size, 0, none⟩), .bool false, .bool true, s6, s7, s8, s9, s10, s11, s12, s13, s14, s15, s16, s17, s18, s19, s20, s21, s22, s23, s24, s25, s26, s27, s28, s29, s30, s31, s32, s33, s34, s35, s36, s37, s38, s39, s40, s41, s42, s43, s44], []⟩ wa := by
  have h0 := fr2_s w v0 a1 a2 a3 a4 a5 a6 g1 g2 g3 g4 g5 g6 T m o Htb Hm1 Hm2 s1 s2 s9 s18 s19 s20 s21 s22 s23 s24 s25 s26 s27 s28 s29 s30 s31 s32 s33 s34 s35 s36 s37 s38 s39 s40 s41 s42 s43 s44 Q hQ
  conv => arg 2; whnf
  refine wp_region_noPanic ?_
  refine wp_region_held_drew (S := fun wr => Bx12 w a1 a2 a3 a4 a5 a6 g1 g2 g3 g4 g5 g6 wr) (by kernel_rfl) (hS.drew) (fun hHeld => ?_)
  exact wpAnyH_listed (by kernel_rfl) (h0 _ _ _ _ _ _ _ _ _ _ _ _ hHeld)

end Go.Proofs.YtdckiaokldkfmaaGreat
