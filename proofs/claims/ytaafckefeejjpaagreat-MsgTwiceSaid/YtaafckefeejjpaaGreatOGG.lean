/-
  Plain facts for MsgTwice; walks: region 2 of the law MsgTwice, one lemma a state. The walk of the law MsgTwice.
-/
import Derived.Test.YtaafckefeejjpaaGreatFR
import Derived.Test.YtaafckefeejjpaaGreatNZ
import Derived.Test.YtaafckefeejjpaaGreatNJ
namespace Go.Proofs.YtaafckefeejjpaaGreat
open Go.RowKit Go.Sort
set_option linter.unusedVariables false

/-- A message that kills, without reading, all that another one writes: that one may be left out. -/
theorem dead_first {m o : Ms} {t : List Pr} (ht : Srt t) (h : minusS (writesS m) (minusS (killsS o) (readsS o)) = []) : allS [m, o] t = applyS o t := by
  have hl : liveB (minusS (killsS o) (readsS o)) (writesS m) = false := by unfold liveB; rw [h]; rfl
  have hm := srt_apply' m ht
  refine Srt.unique (srt_apply' o hm) (srt_apply' o ht) fun x => ?_
  show x ∈ applyS o (applyS m t) ↔ _
  have dead : ∀ k, inB (writesS m) k = true → InL (killsS o) k ∧ ¬ InL (readsS o) k := fun k hk => (minus_in _ _ _).1 (liveB_no hl k ((inB_iff _ _).1 hk))
  cases hw : inB (writesS o) x.1 with
  | true =>
    refine apply_in o hm ht (fun y hy => apply_out m ht y ?_) x hw
    cases hm2 : inB (writesS m) y.1 with
    | false => rfl
    | true => exact absurd ((inB_iff _ _).1 hy) (dead _ hm2).2
  | false =>
    rw [apply_out o hm x hw, apply_out o ht x hw]
    refine apply_out m ht x ?_
    cases hm2 : inB (writesS m) x.1 with
    | false => rfl
    | true =>
      have := (inB_iff _ _).2 (kills_writes o _ (dead _ hm2).1)
      rw [hw] at this; cases this
theorem apply_other {m : Ms} {t : List Pr} (h : writesS m = []) (ht : Srt t) : applyS m t = t :=
  Srt.unique (srt_apply' m ht) ht fun x => apply_out m ht x (by rw [h]; rfl)
/-- All messages but Move do the same if they come twice. -/
theorem apply_twice {m : Ms} {t : List Pr} (ht : Srt t) (h4 : m.kind ≠ 4) (hp : m.kind = 5 → apartB m.src m.dst = true) : allS [m, m] t = applyS m t := by
  have hm := srt_apply' m ht
  show applyS m (applyS m t) = _
  by_cases h6 : m.kind = 6
  · have e : ∀ u, applyS m u = stampT (m.lo, m.hi) m.n u := fun u => by unfold applyS; simp [h6]
    rw [e, e]
    unfold stampT
    rw [List.map_map]
    congr 1
    funext x
    show stampP _ _ (stampP _ _ x) = _
    unfold stampP
    cases hx : hasB (m.lo, m.hi) x.1 with
    | true => simp [hx]
    | false => simp [hx]
  refine Srt.unique (srt_apply' m hm) hm fun x => ?_
  cases hw : inB (writesS m) x.1 with
  | true =>
    refine apply_in m hm ht (fun y hy => apply_out m ht y ?_) x hw
    by_cases h5 : m.kind = 5
    · have er : readsS m = [preS m.src] := by unfold readsS; simp [h5]
      have ew : writesS m = [preS m.dst] := by unfold writesS; simp [h5]
      rw [er, inB_one, has_pre] at hy
      rw [ew, inB_one, has_pre]
      obtain ⟨r, hr⟩ := pre_split hy
      obtain ⟨q1, q2⟩ := apart_both (hp h5)
      rw [hr]
      exact apart_pre q2 q1
    · have er : readsS m = [] := by unfold readsS; simp [h4, h5, h6]
      rw [er] at hy; cases hy
  | false => rw [apply_out m hm x hw]
theorem move_two {m : Ms} {t : List Pr} (ht : Srt t) (h4 : m.kind = 4) (hp : apartB m.src m.dst = true) : allS [m, m] t = withoutS [preS m.src, preS m.dst] t := by
  obtain ⟨h1, h2⟩ := apart_both hp
  have e : ∀ u, applyS m u = moveT m.src m.dst u := fun u => by unfold applyS; simp [h4]
  show applyS m (applyS m t) = _
  rw [e, e]
  exact move_twice ht h1 h2
theorem made_apart (a b c d e f : Nat) : (madeM a b c d e f).kind = 4 ∨ (madeM a b c d e f).kind = 5 → apartB (madeM a b c d e f).src (madeM a b c d e f).dst = true := by
  have := to_apart b d
  unfold madeM
  split
  · intro h; simp at h
  split
  · intro h; simp at h
  split
  · intro h; simp at h
  split
  · intro _; exact this
  split
  · intro _; exact this
  · intro h; simp at h
theorem writes_len (m : Ms) : (writesS m).length ≤ 2 := by unfold writesS; (repeat' split) <;> simp
theorem reads_len (m : Ms) : (readsS m).length ≤ 2 := by unfold readsS; (repeat' split) <;> simp
theorem kills_len (m : Ms) : (killsS m).length ≤ 2 := by unfold killsS; split; simp; exact writes_len m
theorem lw_minus {w : World} {L : List (Value × List Pr)} {B : List (Nat × Ms)} {S : List (Value × List Sp)} {wx : World} (h : Lw w L B S wx) {v u : Value} (a b : List Sp) (ha : IsSpans wx v a) (hb : IsSpans wx u b) (la : a.length ≤ 400) (lb : b.length ≤ 100) :
    Calls Tryz.prog 48 #[v, u] wx (LsOut w L B S wx (minusS a b)) :=
  (rminus_w v u a b wx ha hb la lb).mono fun e w' ⟨v', he, ho, hb'⟩ => by
    obtain ⟨p, cap, rfl, -⟩ := own_form ho
    exact ⟨p, cap, he, IsSpans.owned ho, hb', h.below hb'⟩

/-- Two raw messages' block. -/
structure Bx12 (w : World) (a1 a2 a3 a4 a5 a6 g1 g2 g3 g4 g5 g6 : Nat) (wr : World) : Prop where
  b : Blk wr w.heap.size 70 #[.int .u8 a1, .int .u8 a2, .int .u8 a3, .int .u8 a4, .int .u8 a5, .int .u8 a6, .int .u8 g1, .int .u8 g2, .int .u8 g3, .int .u8 g4, .int .u8 g5, .int .u8 g6]
  g : Below w.heap.size w wr
section
variable {w wx wy : World} {a1 a2 a3 a4 a5 a6 g1 g2 g3 g4 g5 g6 : Nat}
theorem Bx12.below (h : Bx12 w a1 a2 a3 a4 a5 a6 g1 g2 g3 g4 g5 g6 wx) (hb : Below wx.heap.size wx wy) : Bx12 w a1 a2 a3 a4 a5 a6 g1 g2 g3 g4 g5 g6 wy := ⟨h.b.below hb h.b.lt, h.g.trans (hb.mono h.g.size)⟩
theorem Bx12.drew (h : Bx12 w a1 a2 a3 a4 a5 a6 g1 g2 g3 g4 g5 g6 wx) : Bx12 w a1 a2 a3 a4 a5 a6 g1 g2 g3 g4 g5 g6 wx.drew := h.below (below_drewN wx 1)
theorem Bx12.alloc (h : Bx12 w a1 a2 a3 a4 a5 a6 g1 g2 g3 g4 g5 g6 wx) (o : Obj) : Bx12 w a1 a2 a3 a4 a5 a6 g1 g2 g3 g4 g5 g6 (wx.alloc o) := h.below (below_box _)
theorem Bx12.st8 (h : Bx12 w a1 a2 a3 a4 a5 a6 g1 g2 g3 g4 g5 g6 wx) (n : Nat) (hn : w.heap.size < n) (m : Ms) : Bx12 w a1 a2 a3 a4 a5 a6 g1 g2 g3 g4 g5 g6 (st8 wx n m) := ⟨h.b.other8 (Nat.ne_of_lt hn) _, below_st8 h.g (Nat.le_of_lt hn) _⟩
end
noncomputable def tw2R : Code := ((Tryz.f12.body.bind (codeReg 2)).getD .skip)
set_option maxRecDepth 1000000 in
set_option maxHeartbeats 8000000 in
theorem tw2_3_01 (w : World) (v0 : Value) (a1 a2 a3 a4 a5 a6 g1 g2 g3 g4 g5 g6 : Nat) (T : List Pr) (m o : Ms) (Htb : ∀ wr, Bx12 w a1 a2 a3 a4 a5 a6 g1 g2 g3 g4 g5 g6 wr → Calls Tryz.prog 39 #[v0, .int .i64 12] wr (MOut wr T)) (Hm1 : ∀ wr, Calls Tryz.prog 29 #[.agg #[.int .u8 a1, .int .u8 a2, .int .u8 a3, .int .u8 a4, .int .u8 a5, .int .u8 a6]] wr fun e w' => e = .returned (msgV m) ∧ Below wr.heap.size wr w') (Hm2 : ∀ wr, Calls Tryz.prog 29 #[.agg #[.int .u8 g1, .int .u8 g2, .int .u8 g3, .int .u8 g4, .int .u8 g5, .int .u8 g6]] wr fun e w' => e = .returned (msgV o) ∧ Below wr.heap.size wr w') (s1 s2 s9 s10 s11 s12 s21 s22 s23 s24 s25 s26 s27 s28 s29 s30 s31 s32 s33 s34 s35 s36 s37 s38 s39 s40 s41 s42 s43 s44 s45 s46 s47 s48 s49 s50 s51 s52 s53 s54 s55 s56 s57 s58 s59 s60 s61 s62 s63 s64 s65 s66 s67 s68 s69 s70 s71 s72 s73 s74 : Value) (Q : Exit → Act → World → Prop) (hQ : ∀ (u13 u14 u15 u16 u17 u18 u19 u20 : Value) (p : Option Addr) (c : Nat) (b7 b8 : Nat) (wx : World), Lw w [(.slice p T.length c, T)] [(b8, o), (b7, m)] [] wx → Q .normal ⟨#[v0, s1, s2, .pointer (some ⟨w.heap.size, 0, none⟩), .bool false, .bool true, .slice p T.length c, .pointer (some ⟨b7, 0, none⟩), .pointer (some ⟨b8, 0, none⟩), s9, s10, s11, s12, u13, u14, u15, u16, u17, u18, u19, u20, s21, s22, s23, s24, s25, s26, s27, s28, s29, s30, s31, s32, s33, s34, s35, s36, s37, s38, s39, s40, s41, s42, s43, s44, s45, s46, s47, s48, s49, s50, s51, s52, s53, s54, s55, s56, s57, s58, s59, s60, s61, s62, s63, s64, s65, s66, s67, s68, s69, s70, s71, s72, s73, s74], []⟩ wx)
    (s6 : Value) (wx : World) (hHeld : Bx12 w a1 a2 a3 a4 a5 a6 g1 g2 g3 g4 g5 g6 wx) (p : Option Addr) (c : Nat) (hp : IsPairs wx (.slice p T.length c) T) (b7 : Nat) (hz0 : Blk wx b7 47 #[.int .i64 0, .string ⟨#[]⟩, .string ⟨#[]⟩, .string ⟨#[]⟩, .string ⟨#[]⟩, .string ⟨#[]⟩, .string ⟨#[]⟩, .int .i64 0]) (hl0 : w.heap.size < b7) (ho0 : OffB b7 p T) (b8 : Nat) (hz1 : Blk wx b8 47 #[.int .i64 0, .string ⟨#[]⟩, .string ⟨#[]⟩, .string ⟨#[]⟩, .string ⟨#[]⟩, .string ⟨#[]⟩, .string ⟨#[]⟩, .int .i64 0]) (hl1 : w.heap.size < b8) (ho1 : OffB b8 p T) (hn01 : b7 ≠ b8) :
    wpAnyH Tryz.prog .any (codeOps tw2R) (NoPanic Q) (fun wr => Bx12 w a1 a2 a3 a4 a5 a6 g1 g2 g3 g4 g5 g6 wr) 3 #[true, true, true, true, true, true, true, true, true, true, false, false, false] ⟨#[v0, s1, s2, .pointer (some ⟨w.heap.size, 0, none⟩), .bool false, .bool true, s6, .pointer (some ⟨b7, 0, none⟩), .pointer (some ⟨b8, 0, none⟩), s9, s10, s11, s12, v0, .slice p T.length c, .pointer (some ⟨w.heap.size, 0, none⟩), .agg #[.int .u8 a1, .int .u8 a2, .int .u8 a3, .int .u8 a4, .int .u8 a5, .int .u8 a6], msgV m, .pointer (some ⟨w.heap.size, 6, none⟩), .agg #[.int .u8 g1, .int .u8 g2, .int .u8 g3, .int .u8 g4, .int .u8 g5, .int .u8 g6], msgV o, s21, s22, s23, s24, s25, s26, s27, s28, s29, s30, s31, s32, s33, s34, s35, s36, s37, s38, s39, s40, s41, s42, s43, s44, s45, s46, s47, s48, s49, s50, s51, s52, s53, s54, s55, s56, s57, s58, s59, s60, s61, s62, s63, s64, s65, s66, s67, s68, s69, s70, s71, s72, s73, s74], []⟩ wx := by
  have HQ := Lib.hid hQ
  clear hQ
  conv => arg 3; arg 1; whnf
  dsimp only [codeOps]
  refine wpAnyH_take (i := 10) (oi := _) (v := ?_) rfl (by kernel_rfl) (by kernel_rfl) (by kernel_rfl) (fun _ _ _ h => h) (Or.inl ⟨by rfl, ?_⟩) (by with_reducible assumption) ?_
  rotate_left
  · intro wt hSw
    go_simp
    all_goals with_reducible rfl
  try simp only [Act.put, List.setIfInBounds_toArray, List.set_cons_zero, List.set_cons_succ]
  have d0 := hz0.c0 0 _ rfl
  have g0 := hz0.free 0
  have d1 := hz0.c0 1 _ rfl
  have g1 := hz0.free 1
  have d2 := hz0.c0 2 _ rfl
  have g2 := hz0.free 2
  have d3 := hz0.c0 3 _ rfl
  have g3 := hz0.free 3
  have d4 := hz0.c0 4 _ rfl
  have g4 := hz0.free 4
  have d5 := hz0.c0 5 _ rfl
  have g5 := hz0.free 5
  have d6 := hz0.c0 6 _ rfl
  have g6 := hz0.free 6
  have d7 := hz0.c0 7 _ rfl
  have g7 := hz0.free 7
  refine wpAnyH_ready (rs := [11]) (by kernel_rfl) (by simp) ?_
  refine AllReadyH.cons (o := _) rfl (fun K hK => ?_) AllReadyH.nil
  go_simp
  clear d0 g0 d1 g1 d2 g2 d3 g3 d4 g4 d5 g5 d6 g6 d7 g7
  refine hK.out _ _ (by with_reducible exact Bx12.st8 (by with_reducible assumption) b7 hl0 m) (fun hHeld => ?_)
  clear hK K
  try simp only [List.setIfInBounds_toArray, List.set_cons_zero, List.set_cons_succ]
  have hp : IsPairs ((((((((wx.setCell ⟨b7, 0, none⟩ (.int .i64 m.kind)).setCell ⟨b7, 1, none⟩ (.string (Str m.key))).setCell ⟨b7, 2, none⟩ (.string (Str m.val))).setCell ⟨b7, 3, none⟩ (.string (Str m.lo))).setCell ⟨b7, 4, none⟩ (.string (Str m.hi))).setCell ⟨b7, 5, none⟩ (.string (Str m.src))).setCell ⟨b7, 6, none⟩ (.string (Str m.dst))).setCell ⟨b7, 7, none⟩ (.int .i64 m.n)) _ _ := hp.st8 ho0 m
  have hm0 : MBlk ((((((((wx.setCell ⟨b7, 0, none⟩ (.int .i64 m.kind)).setCell ⟨b7, 1, none⟩ (.string (Str m.key))).setCell ⟨b7, 2, none⟩ (.string (Str m.val))).setCell ⟨b7, 3, none⟩ (.string (Str m.lo))).setCell ⟨b7, 4, none⟩ (.string (Str m.hi))).setCell ⟨b7, 5, none⟩ (.string (Str m.src))).setCell ⟨b7, 6, none⟩ (.string (Str m.dst))).setCell ⟨b7, 7, none⟩ (.int .i64 m.n)) _ _ := MBlk.st8 (m0 := zeroM 0) hz0 m
  have hz1 : Blk ((((((((wx.setCell ⟨b7, 0, none⟩ (.int .i64 m.kind)).setCell ⟨b7, 1, none⟩ (.string (Str m.key))).setCell ⟨b7, 2, none⟩ (.string (Str m.val))).setCell ⟨b7, 3, none⟩ (.string (Str m.lo))).setCell ⟨b7, 4, none⟩ (.string (Str m.hi))).setCell ⟨b7, 5, none⟩ (.string (Str m.src))).setCell ⟨b7, 6, none⟩ (.string (Str m.dst))).setCell ⟨b7, 7, none⟩ (.int .i64 m.n)) _ _ _ := Blk.other8 hz1 hn01.symm m
  clear hz0
  generalize (((((((wx.setCell ⟨b7, 0, none⟩ (.int .i64 m.kind)).setCell ⟨b7, 1, none⟩ (.string (Str m.key))).setCell ⟨b7, 2, none⟩ (.string (Str m.val))).setCell ⟨b7, 3, none⟩ (.string (Str m.lo))).setCell ⟨b7, 4, none⟩ (.string (Str m.hi))).setCell ⟨b7, 5, none⟩ (.string (Str m.src))).setCell ⟨b7, 6, none⟩ (.string (Str m.dst))).setCell ⟨b7, 7, none⟩ (.int .i64 m.n) = wy0 at *
  have d0 := hz1.c0 0 _ rfl
  have g0 := hz1.free 0
  have d1 := hz1.c0 1 _ rfl
  have g1 := hz1.free 1
  have d2 := hz1.c0 2 _ rfl
  have g2 := hz1.free 2
  have d3 := hz1.c0 3 _ rfl
  have g3 := hz1.free 3
  have d4 := hz1.c0 4 _ rfl
  have g4 := hz1.free 4
  have d5 := hz1.c0 5 _ rfl
  have g5 := hz1.free 5
  have d6 := hz1.c0 6 _ rfl
  have g6 := hz1.free 6
  have d7 := hz1.c0 7 _ rfl
  have g7 := hz1.free 7
  refine wpAnyH_ready (rs := [12]) (by kernel_rfl) (by simp) ?_
  refine AllReadyH.cons (o := _) rfl (fun K hK => ?_) AllReadyH.nil
  go_simp
  clear d0 g0 d1 g1 d2 g2 d3 g3 d4 g4 d5 g5 d6 g6 d7 g7
  refine hK.out _ _ (by with_reducible exact Bx12.st8 (by with_reducible assumption) b8 hl1 o) (fun hHeld => ?_)
  clear hK K
  try simp only [List.setIfInBounds_toArray, List.set_cons_zero, List.set_cons_succ]
  have hp : IsPairs ((((((((wy0.setCell ⟨b8, 0, none⟩ (.int .i64 o.kind)).setCell ⟨b8, 1, none⟩ (.string (Str o.key))).setCell ⟨b8, 2, none⟩ (.string (Str o.val))).setCell ⟨b8, 3, none⟩ (.string (Str o.lo))).setCell ⟨b8, 4, none⟩ (.string (Str o.hi))).setCell ⟨b8, 5, none⟩ (.string (Str o.src))).setCell ⟨b8, 6, none⟩ (.string (Str o.dst))).setCell ⟨b8, 7, none⟩ (.int .i64 o.n)) _ _ := hp.st8 ho1 o
  have hm0 : MBlk ((((((((wy0.setCell ⟨b8, 0, none⟩ (.int .i64 o.kind)).setCell ⟨b8, 1, none⟩ (.string (Str o.key))).setCell ⟨b8, 2, none⟩ (.string (Str o.val))).setCell ⟨b8, 3, none⟩ (.string (Str o.lo))).setCell ⟨b8, 4, none⟩ (.string (Str o.hi))).setCell ⟨b8, 5, none⟩ (.string (Str o.src))).setCell ⟨b8, 6, none⟩ (.string (Str o.dst))).setCell ⟨b8, 7, none⟩ (.int .i64 o.n)) _ _ := Blk.other8 hm0 hn01 o
  have hm1 : MBlk ((((((((wy0.setCell ⟨b8, 0, none⟩ (.int .i64 o.kind)).setCell ⟨b8, 1, none⟩ (.string (Str o.key))).setCell ⟨b8, 2, none⟩ (.string (Str o.val))).setCell ⟨b8, 3, none⟩ (.string (Str o.lo))).setCell ⟨b8, 4, none⟩ (.string (Str o.hi))).setCell ⟨b8, 5, none⟩ (.string (Str o.src))).setCell ⟨b8, 6, none⟩ (.string (Str o.dst))).setCell ⟨b8, 7, none⟩ (.int .i64 o.n)) _ _ := MBlk.st8 (m0 := zeroM 0) hz1 o
  clear hz1
  generalize (((((((wy0.setCell ⟨b8, 0, none⟩ (.int .i64 o.kind)).setCell ⟨b8, 1, none⟩ (.string (Str o.key))).setCell ⟨b8, 2, none⟩ (.string (Str o.val))).setCell ⟨b8, 3, none⟩ (.string (Str o.lo))).setCell ⟨b8, 4, none⟩ (.string (Str o.hi))).setCell ⟨b8, 5, none⟩ (.string (Str o.src))).setCell ⟨b8, 6, none⟩ (.string (Str o.dst))).setCell ⟨b8, 7, none⟩ (.int .i64 o.n) = wy1 at *
  refine wpAnyH_done (by kernel_rfl) (NoPanic.normal (HQ.out _ _ _ _ _ _ _ _ p c b7 b8 _ ?_)) _
  exact ⟨hHeld.g, (fun x hx => by rw [List.mem_singleton.1 hx]; exact hp), (fun x hx => by simp only [List.mem_cons, List.not_mem_nil, or_false] at hx; rcases hx with rfl | rfl <;> assumption), (fun x hx => by cases hx)⟩
set_option maxRecDepth 1000000 in
set_option maxHeartbeats 8000000 in
theorem tw2_3_1 (w : World) (v0 : Value) (a1 a2 a3 a4 a5 a6 g1 g2 g3 g4 g5 g6 : Nat) (T : List Pr) (m o : Ms) (Htb : ∀ wr, Bx12 w a1 a2 a3 a4 a5 a6 g1 g2 g3 g4 g5 g6 wr → Calls Tryz.prog 39 #[v0, .int .i64 12] wr (MOut wr T)) (Hm1 : ∀ wr, Calls Tryz.prog 29 #[.agg #[.int .u8 a1, .int .u8 a2, .int .u8 a3, .int .u8 a4, .int .u8 a5, .int .u8 a6]] wr fun e w' => e = .returned (msgV m) ∧ Below wr.heap.size wr w') (Hm2 : ∀ wr, Calls Tryz.prog 29 #[.agg #[.int .u8 g1, .int .u8 g2, .int .u8 g3, .int .u8 g4, .int .u8 g5, .int .u8 g6]] wr fun e w' => e = .returned (msgV o) ∧ Below wr.heap.size wr w') (s1 s2 s9 s10 s11 s12 s21 s22 s23 s24 s25 s26 s27 s28 s29 s30 s31 s32 s33 s34 s35 s36 s37 s38 s39 s40 s41 s42 s43 s44 s45 s46 s47 s48 s49 s50 s51 s52 s53 s54 s55 s56 s57 s58 s59 s60 s61 s62 s63 s64 s65 s66 s67 s68 s69 s70 s71 s72 s73 s74 : Value) (Q : Exit → Act → World → Prop) (hQ : ∀ (u13 u14 u15 u16 u17 u18 u19 u20 : Value) (p : Option Addr) (c : Nat) (b7 b8 : Nat) (wx : World), Lw w [(.slice p T.length c, T)] [(b8, o), (b7, m)] [] wx → Q .normal ⟨#[v0, s1, s2, .pointer (some ⟨w.heap.size, 0, none⟩), .bool false, .bool true, .slice p T.length c, .pointer (some ⟨b7, 0, none⟩), .pointer (some ⟨b8, 0, none⟩), s9, s10, s11, s12, u13, u14, u15, u16, u17, u18, u19, u20, s21, s22, s23, s24, s25, s26, s27, s28, s29, s30, s31, s32, s33, s34, s35, s36, s37, s38, s39, s40, s41, s42, s43, s44, s45, s46, s47, s48, s49, s50, s51, s52, s53, s54, s55, s56, s57, s58, s59, s60, s61, s62, s63, s64, s65, s66, s67, s68, s69, s70, s71, s72, s73, s74], []⟩ wx)
    (s6 s7 : Value) (wx : World) (hHeld : Bx12 w a1 a2 a3 a4 a5 a6 g1 g2 g3 g4 g5 g6 wx) (p : Option Addr) (c : Nat) (hp : IsPairs wx (.slice p T.length c) T) (b8 : Nat) (hz1 : Blk wx b8 47 #[.int .i64 0, .string ⟨#[]⟩, .string ⟨#[]⟩, .string ⟨#[]⟩, .string ⟨#[]⟩, .string ⟨#[]⟩, .string ⟨#[]⟩, .int .i64 0]) (hl1 : w.heap.size < b8) (ho1 : OffB b8 p T) :
    wpAnyH Tryz.prog .any (codeOps tw2R) (NoPanic Q) (fun wr => Bx12 w a1 a2 a3 a4 a5 a6 g1 g2 g3 g4 g5 g6 wr) 4 #[true, true, true, true, true, true, true, true, false, true, false, false, false] ⟨#[v0, s1, s2, .pointer (some ⟨w.heap.size, 0, none⟩), .bool false, .bool true, s6, s7, .pointer (some ⟨b8, 0, none⟩), s9, s10, s11, s12, v0, .slice p T.length c, .pointer (some ⟨w.heap.size, 0, none⟩), .agg #[.int .u8 a1, .int .u8 a2, .int .u8 a3, .int .u8 a4, .int .u8 a5, .int .u8 a6], msgV m, .pointer (some ⟨w.heap.size, 6, none⟩), .agg #[.int .u8 g1, .int .u8 g2, .int .u8 g3, .int .u8 g4, .int .u8 g5, .int .u8 g6], msgV o, s21, s22, s23, s24, s25, s26, s27, s28, s29, s30, s31, s32, s33, s34, s35, s36, s37, s38, s39, s40, s41, s42, s43, s44, s45, s46, s47, s48, s49, s50, s51, s52, s53, s54, s55, s56, s57, s58, s59, s60, s61, s62, s63, s64, s65, s66, s67, s68, s69, s70, s71, s72, s73, s74], []⟩ wx := by
  have HN0 := Lib.hid (tw2_3_01 w v0 a1 a2 a3 a4 a5 a6 g1 g2 g3 g4 g5 g6 T m o Htb Hm1 Hm2 s1 s2 s9 s10 s11 s12 s21 s22 s23 s24 s25 s26 s27 s28 s29 s30 s31 s32 s33 s34 s35 s36 s37 s38 s39 s40 s41 s42 s43 s44 s45 s46 s47 s48 s49 s50 s51 s52 s53 s54 s55 s56 s57 s58 s59 s60 s61 s62 s63 s64 s65 s66 s67 s68 s69 s70 s71 s72 s73 s74 Q hQ)
  clear hQ
  have hltw := hHeld.b.lt
  conv => arg 3; arg 1; whnf
  dsimp only [codeOps]
  refine wpAnyH_ready (rs := [8]) (by kernel_rfl) (by simp) ?_
  refine AllReadyH.cons (o := _) rfl (fun K hK => ?_) AllReadyH.nil
  · go_simp
    refine hK.out _ _ (by (first | with_reducible assumption | with_reducible exact Bx12.below (by with_reducible assumption) (by with_reducible assumption) | with_reducible exact Bx12.alloc (by with_reducible assumption) _)) (fun hHeld => ?_)
    clear hK K
    try simp only [List.setIfInBounds_toArray, List.set_cons_zero, List.set_cons_succ]
    exact wpAnyH_listed (by kernel_rfl) (HN0.out _ _ (by with_reducible assumption) p c (hp.alloc _) _ (Blk.new _ _ _) hltw (hp.off_size (Nat.le_refl _)) _ (hz1.alloc _) hl1 ho1 (Nat.ne_of_gt hz1.lt))
set_option maxRecDepth 1000000 in
set_option maxHeartbeats 8000000 in
theorem tw2_3_0 (w : World) (v0 : Value) (a1 a2 a3 a4 a5 a6 g1 g2 g3 g4 g5 g6 : Nat) (T : List Pr) (m o : Ms) (Htb : ∀ wr, Bx12 w a1 a2 a3 a4 a5 a6 g1 g2 g3 g4 g5 g6 wr → Calls Tryz.prog 39 #[v0, .int .i64 12] wr (MOut wr T)) (Hm1 : ∀ wr, Calls Tryz.prog 29 #[.agg #[.int .u8 a1, .int .u8 a2, .int .u8 a3, .int .u8 a4, .int .u8 a5, .int .u8 a6]] wr fun e w' => e = .returned (msgV m) ∧ Below wr.heap.size wr w') (Hm2 : ∀ wr, Calls Tryz.prog 29 #[.agg #[.int .u8 g1, .int .u8 g2, .int .u8 g3, .int .u8 g4, .int .u8 g5, .int .u8 g6]] wr fun e w' => e = .returned (msgV o) ∧ Below wr.heap.size wr w') (s1 s2 s9 s10 s11 s12 s21 s22 s23 s24 s25 s26 s27 s28 s29 s30 s31 s32 s33 s34 s35 s36 s37 s38 s39 s40 s41 s42 s43 s44 s45 s46 s47 s48 s49 s50 s51 s52 s53 s54 s55 s56 s57 s58 s59 s60 s61 s62 s63 s64 s65 s66 s67 s68 s69 s70 s71 s72 s73 s74 : Value) (Q : Exit → Act → World → Prop) (hQ : ∀ (u13 u14 u15 u16 u17 u18 u19 u20 : Value) (p : Option Addr) (c : Nat) (b7 b8 : Nat) (wx : World), Lw w [(.slice p T.length c, T)] [(b8, o), (b7, m)] [] wx → Q .normal ⟨#[v0, s1, s2, .pointer (some ⟨w.heap.size, 0, none⟩), .bool false, .bool true, .slice p T.length c, .pointer (some ⟨b7, 0, none⟩), .pointer (some ⟨b8, 0, none⟩), s9, s10, s11, s12, u13, u14, u15, u16, u17, u18, u19, u20, s21, s22, s23, s24, s25, s26, s27, s28, s29, s30, s31, s32, s33, s34, s35, s36, s37, s38, s39, s40, s41, s42, s43, s44, s45, s46, s47, s48, s49, s50, s51, s52, s53, s54, s55, s56, s57, s58, s59, s60, s61, s62, s63, s64, s65, s66, s67, s68, s69, s70, s71, s72, s73, s74], []⟩ wx)
    (s6 s8 : Value) (wx : World) (hHeld : Bx12 w a1 a2 a3 a4 a5 a6 g1 g2 g3 g4 g5 g6 wx) (p : Option Addr) (c : Nat) (hp : IsPairs wx (.slice p T.length c) T) (b7 : Nat) (hz0 : Blk wx b7 47 #[.int .i64 0, .string ⟨#[]⟩, .string ⟨#[]⟩, .string ⟨#[]⟩, .string ⟨#[]⟩, .string ⟨#[]⟩, .string ⟨#[]⟩, .int .i64 0]) (hl0 : w.heap.size < b7) (ho0 : OffB b7 p T) :
    wpAnyH Tryz.prog .any (codeOps tw2R) (NoPanic Q) (fun wr => Bx12 w a1 a2 a3 a4 a5 a6 g1 g2 g3 g4 g5 g6 wr) 4 #[true, true, true, true, true, true, true, true, true, false, false, false, false] ⟨#[v0, s1, s2, .pointer (some ⟨w.heap.size, 0, none⟩), .bool false, .bool true, s6, .pointer (some ⟨b7, 0, none⟩), s8, s9, s10, s11, s12, v0, .slice p T.length c, .pointer (some ⟨w.heap.size, 0, none⟩), .agg #[.int .u8 a1, .int .u8 a2, .int .u8 a3, .int .u8 a4, .int .u8 a5, .int .u8 a6], msgV m, .pointer (some ⟨w.heap.size, 6, none⟩), .agg #[.int .u8 g1, .int .u8 g2, .int .u8 g3, .int .u8 g4, .int .u8 g5, .int .u8 g6], msgV o, s21, s22, s23, s24, s25, s26, s27, s28, s29, s30, s31, s32, s33, s34, s35, s36, s37, s38, s39, s40, s41, s42, s43, s44, s45, s46, s47, s48, s49, s50, s51, s52, s53, s54, s55, s56, s57, s58, s59, s60, s61, s62, s63, s64, s65, s66, s67, s68, s69, s70, s71, s72, s73, s74], []⟩ wx := by
  have HN0 := Lib.hid (tw2_3_01 w v0 a1 a2 a3 a4 a5 a6 g1 g2 g3 g4 g5 g6 T m o Htb Hm1 Hm2 s1 s2 s9 s10 s11 s12 s21 s22 s23 s24 s25 s26 s27 s28 s29 s30 s31 s32 s33 s34 s35 s36 s37 s38 s39 s40 s41 s42 s43 s44 s45 s46 s47 s48 s49 s50 s51 s52 s53 s54 s55 s56 s57 s58 s59 s60 s61 s62 s63 s64 s65 s66 s67 s68 s69 s70 s71 s72 s73 s74 Q hQ)
  clear hQ
  have hltw := hHeld.b.lt
  conv => arg 3; arg 1; whnf
  dsimp only [codeOps]
  refine wpAnyH_ready (rs := [9]) (by kernel_rfl) (by simp) ?_
  refine AllReadyH.cons (o := _) rfl (fun K hK => ?_) AllReadyH.nil
  · go_simp
    refine hK.out _ _ (by (first | with_reducible assumption | with_reducible exact Bx12.below (by with_reducible assumption) (by with_reducible assumption) | with_reducible exact Bx12.alloc (by with_reducible assumption) _)) (fun hHeld => ?_)
    clear hK K
    try simp only [List.setIfInBounds_toArray, List.set_cons_zero, List.set_cons_succ]
    exact wpAnyH_listed (by kernel_rfl) (HN0.out _ _ (by with_reducible assumption) p c (hp.alloc _) _ (hz0.alloc _) hl0 ho0 _ (Blk.new _ _ _) hltw (hp.off_size (Nat.le_refl _)) (Nat.ne_of_lt hz0.lt))
set_option maxRecDepth 1000000 in
set_option maxHeartbeats 8000000 in
theorem tw2_3_n (w : World) (v0 : Value) (a1 a2 a3 a4 a5 a6 g1 g2 g3 g4 g5 g6 : Nat) (T : List Pr) (m o : Ms) (Htb : ∀ wr, Bx12 w a1 a2 a3 a4 a5 a6 g1 g2 g3 g4 g5 g6 wr → Calls Tryz.prog 39 #[v0, .int .i64 12] wr (MOut wr T)) (Hm1 : ∀ wr, Calls Tryz.prog 29 #[.agg #[.int .u8 a1, .int .u8 a2, .int .u8 a3, .int .u8 a4, .int .u8 a5, .int .u8 a6]] wr fun e w' => e = .returned (msgV m) ∧ Below wr.heap.size wr w') (Hm2 : ∀ wr, Calls Tryz.prog 29 #[.agg #[.int .u8 g1, .int .u8 g2, .int .u8 g3, .int .u8 g4, .int .u8 g5, .int .u8 g6]] wr fun e w' => e = .returned (msgV o) ∧ Below wr.heap.size wr w') (s1 s2 s9 s10 s11 s12 s21 s22 s23 s24 s25 s26 s27 s28 s29 s30 s31 s32 s33 s34 s35 s36 s37 s38 s39 s40 s41 s42 s43 s44 s45 s46 s47 s48 s49 s50 s51 s52 s53 s54 s55 s56 s57 s58 s59 s60 s61 s62 s63 s64 s65 s66 s67 s68 s69 s70 s71 s72 s73 s74 : Value) (Q : Exit → Act → World → Prop) (hQ : ∀ (u13 u14 u15 u16 u17 u18 u19 u20 : Value) (p : Option Addr) (c : Nat) (b7 b8 : Nat) (wx : World), Lw w [(.slice p T.length c, T)] [(b8, o), (b7, m)] [] wx → Q .normal ⟨#[v0, s1, s2, .pointer (some ⟨w.heap.size, 0, none⟩), .bool false, .bool true, .slice p T.length c, .pointer (some ⟨b7, 0, none⟩), .pointer (some ⟨b8, 0, none⟩), s9, s10, s11, s12, u13, u14, u15, u16, u17, u18, u19, u20, s21, s22, s23, s24, s25, s26, s27, s28, s29, s30, s31, s32, s33, s34, s35, s36, s37, s38, s39, s40, s41, s42, s43, s44, s45, s46, s47, s48, s49, s50, s51, s52, s53, s54, s55, s56, s57, s58, s59, s60, s61, s62, s63, s64, s65, s66, s67, s68, s69, s70, s71, s72, s73, s74], []⟩ wx)
    (s6 s7 s8 : Value) (wx : World) (hHeld : Bx12 w a1 a2 a3 a4 a5 a6 g1 g2 g3 g4 g5 g6 wx) (p : Option Addr) (c : Nat) (hp : IsPairs wx (.slice p T.length c) T) :
    wpAnyH Tryz.prog .any (codeOps tw2R) (NoPanic Q) (fun wr => Bx12 w a1 a2 a3 a4 a5 a6 g1 g2 g3 g4 g5 g6 wr) 5 #[true, true, true, true, true, true, true, true, false, false, false, false, false] ⟨#[v0, s1, s2, .pointer (some ⟨w.heap.size, 0, none⟩), .bool false, .bool true, s6, s7, s8, s9, s10, s11, s12, v0, .slice p T.length c, .pointer (some ⟨w.heap.size, 0, none⟩), .agg #[.int .u8 a1, .int .u8 a2, .int .u8 a3, .int .u8 a4, .int .u8 a5, .int .u8 a6], msgV m, .pointer (some ⟨w.heap.size, 6, none⟩), .agg #[.int .u8 g1, .int .u8 g2, .int .u8 g3, .int .u8 g4, .int .u8 g5, .int .u8 g6], msgV o, s21, s22, s23, s24, s25, s26, s27, s28, s29, s30, s31, s32, s33, s34, s35, s36, s37, s38, s39, s40, s41, s42, s43, s44, s45, s46, s47, s48, s49, s50, s51, s52, s53, s54, s55, s56, s57, s58, s59, s60, s61, s62, s63, s64, s65, s66, s67, s68, s69, s70, s71, s72, s73, s74], []⟩ wx := by
  have HN0 := Lib.hid (tw2_3_0 w v0 a1 a2 a3 a4 a5 a6 g1 g2 g3 g4 g5 g6 T m o Htb Hm1 Hm2 s1 s2 s9 s10 s11 s12 s21 s22 s23 s24 s25 s26 s27 s28 s29 s30 s31 s32 s33 s34 s35 s36 s37 s38 s39 s40 s41 s42 s43 s44 s45 s46 s47 s48 s49 s50 s51 s52 s53 s54 s55 s56 s57 s58 s59 s60 s61 s62 s63 s64 s65 s66 s67 s68 s69 s70 s71 s72 s73 s74 Q hQ)
  have HN1 := Lib.hid (tw2_3_1 w v0 a1 a2 a3 a4 a5 a6 g1 g2 g3 g4 g5 g6 T m o Htb Hm1 Hm2 s1 s2 s9 s10 s11 s12 s21 s22 s23 s24 s25 s26 s27 s28 s29 s30 s31 s32 s33 s34 s35 s36 s37 s38 s39 s40 s41 s42 s43 s44 s45 s46 s47 s48 s49 s50 s51 s52 s53 s54 s55 s56 s57 s58 s59 s60 s61 s62 s63 s64 s65 s66 s67 s68 s69 s70 s71 s72 s73 s74 Q hQ)
  clear hQ
  have hltw := hHeld.b.lt
  conv => arg 3; arg 1; whnf
  dsimp only [codeOps]
  refine wpAnyH_ready (rs := [8, 9]) (by kernel_rfl) (by simp) ?_
  refine AllReadyH.cons (o := _) rfl (fun K hK => ?_) (AllReadyH.cons (o := _) rfl (fun K hK => ?_) AllReadyH.nil)
  · go_simp
    refine hK.out _ _ (by (first | with_reducible assumption | with_reducible exact Bx12.below (by with_reducible assumption) (by with_reducible assumption) | with_reducible exact Bx12.alloc (by with_reducible assumption) _)) (fun hHeld => ?_)
    clear hK K
    try simp only [List.setIfInBounds_toArray, List.set_cons_zero, List.set_cons_succ]
    exact wpAnyH_listed (by kernel_rfl) (HN0.out _ _ _ (by with_reducible assumption) p c (hp.alloc _) _ (Blk.new _ _ _) hltw (hp.off_size (Nat.le_refl _)))
  · go_simp
    refine hK.out _ _ (by (first | with_reducible assumption | with_reducible exact Bx12.below (by with_reducible assumption) (by with_reducible assumption) | with_reducible exact Bx12.alloc (by with_reducible assumption) _)) (fun hHeld => ?_)
    clear hK K
    try simp only [List.setIfInBounds_toArray, List.set_cons_zero, List.set_cons_succ]
    exact wpAnyH_listed (by kernel_rfl) (HN1.out _ _ _ (by with_reducible assumption) p c (hp.alloc _) _ (Blk.new _ _ _) hltw (hp.off_size (Nat.le_refl _)))
set_option maxRecDepth 1000000 in
set_option maxHeartbeats 8000000 in
theorem tw2_2_01 (w : World) (v0 : Value) (a1 a2 a3 a4 a5 a6 g1 g2 g3 g4 g5 g6 : Nat) (T : List Pr) (m o : Ms) (Htb : ∀ wr, Bx12 w a1 a2 a3 a4 a5 a6 g1 g2 g3 g4 g5 g6 wr → Calls Tryz.prog 39 #[v0, .int .i64 12] wr (MOut wr T)) (Hm1 : ∀ wr, Calls Tryz.prog 29 #[.agg #[.int .u8 a1, .int .u8 a2, .int .u8 a3, .int .u8 a4, .int .u8 a5, .int .u8 a6]] wr fun e w' => e = .returned (msgV m) ∧ Below wr.heap.size wr w') (Hm2 : ∀ wr, Calls Tryz.prog 29 #[.agg #[.int .u8 g1, .int .u8 g2, .int .u8 g3, .int .u8 g4, .int .u8 g5, .int .u8 g6]] wr fun e w' => e = .returned (msgV o) ∧ Below wr.heap.size wr w') (s1 s2 s9 s10 s11 s12 s21 s22 s23 s24 s25 s26 s27 s28 s29 s30 s31 s32 s33 s34 s35 s36 s37 s38 s39 s40 s41 s42 s43 s44 s45 s46 s47 s48 s49 s50 s51 s52 s53 s54 s55 s56 s57 s58 s59 s60 s61 s62 s63 s64 s65 s66 s67 s68 s69 s70 s71 s72 s73 s74 : Value) (Q : Exit → Act → World → Prop) (hQ : ∀ (u13 u14 u15 u16 u17 u18 u19 u20 : Value) (p : Option Addr) (c : Nat) (b7 b8 : Nat) (wx : World), Lw w [(.slice p T.length c, T)] [(b8, o), (b7, m)] [] wx → Q .normal ⟨#[v0, s1, s2, .pointer (some ⟨w.heap.size, 0, none⟩), .bool false, .bool true, .slice p T.length c, .pointer (some ⟨b7, 0, none⟩), .pointer (some ⟨b8, 0, none⟩), s9, s10, s11, s12, u13, u14, u15, u16, u17, u18, u19, u20, s21, s22, s23, s24, s25, s26, s27, s28, s29, s30, s31, s32, s33, s34, s35, s36, s37, s38, s39, s40, s41, s42, s43, s44, s45, s46, s47, s48, s49, s50, s51, s52, s53, s54, s55, s56, s57, s58, s59, s60, s61, s62, s63, s64, s65, s66, s67, s68, s69, s70, s71, s72, s73, s74], []⟩ wx)
    (s6 s20 : Value) (wx : World) (hHeld : Bx12 w a1 a2 a3 a4 a5 a6 g1 g2 g3 g4 g5 g6 wx) (p : Option Addr) (c : Nat) (hp : IsPairs wx (.slice p T.length c) T) (b7 : Nat) (hz0 : Blk wx b7 47 #[.int .i64 0, .string ⟨#[]⟩, .string ⟨#[]⟩, .string ⟨#[]⟩, .string ⟨#[]⟩, .string ⟨#[]⟩, .string ⟨#[]⟩, .int .i64 0]) (hl0 : w.heap.size < b7) (ho0 : OffB b7 p T) (b8 : Nat) (hz1 : Blk wx b8 47 #[.int .i64 0, .string ⟨#[]⟩, .string ⟨#[]⟩, .string ⟨#[]⟩, .string ⟨#[]⟩, .string ⟨#[]⟩, .string ⟨#[]⟩, .int .i64 0]) (hl1 : w.heap.size < b8) (ho1 : OffB b8 p T) (hn01 : b7 ≠ b8) :
    wpAnyH Tryz.prog .any (codeOps tw2R) (NoPanic Q) (fun wr => Bx12 w a1 a2 a3 a4 a5 a6 g1 g2 g3 g4 g5 g6 wr) 4 #[true, true, true, true, true, true, true, false, true, true, false, false, false] ⟨#[v0, s1, s2, .pointer (some ⟨w.heap.size, 0, none⟩), .bool false, .bool true, s6, .pointer (some ⟨b7, 0, none⟩), .pointer (some ⟨b8, 0, none⟩), s9, s10, s11, s12, v0, .slice p T.length c, .pointer (some ⟨w.heap.size, 0, none⟩), .agg #[.int .u8 a1, .int .u8 a2, .int .u8 a3, .int .u8 a4, .int .u8 a5, .int .u8 a6], msgV m, .pointer (some ⟨w.heap.size, 6, none⟩), .agg #[.int .u8 g1, .int .u8 g2, .int .u8 g3, .int .u8 g4, .int .u8 g5, .int .u8 g6], s20, s21, s22, s23, s24, s25, s26, s27, s28, s29, s30, s31, s32, s33, s34, s35, s36, s37, s38, s39, s40, s41, s42, s43, s44, s45, s46, s47, s48, s49, s50, s51, s52, s53, s54, s55, s56, s57, s58, s59, s60, s61, s62, s63, s64, s65, s66, s67, s68, s69, s70, s71, s72, s73, s74], []⟩ wx := by
  have HN0 := Lib.hid (tw2_3_01 w v0 a1 a2 a3 a4 a5 a6 g1 g2 g3 g4 g5 g6 T m o Htb Hm1 Hm2 s1 s2 s9 s10 s11 s12 s21 s22 s23 s24 s25 s26 s27 s28 s29 s30 s31 s32 s33 s34 s35 s36 s37 s38 s39 s40 s41 s42 s43 s44 s45 s46 s47 s48 s49 s50 s51 s52 s53 s54 s55 s56 s57 s58 s59 s60 s61 s62 s63 s64 s65 s66 s67 s68 s69 s70 s71 s72 s73 s74 Q hQ)
  clear hQ
  have hltw := hHeld.b.lt
  conv => arg 3; arg 1; whnf
  dsimp only [codeOps]
  refine wpAnyH_ready (rs := [7]) (by kernel_rfl) (by simp) ?_
  refine AllReadyH.cons (o := _) rfl (fun K hK => ?_) AllReadyH.nil
  · go_simp
    (go_at_call 29; (with_reducible refine (Hm2 _).mono ?_); rintro e x2 ⟨rfl, hb⟩)
    refine hK.out _ _ (by (first | with_reducible assumption | with_reducible exact Bx12.below (by with_reducible assumption) (by with_reducible assumption) | with_reducible exact Bx12.alloc (by with_reducible assumption) _)) (fun hHeld => ?_)
    clear hK K
    try simp only [List.setIfInBounds_toArray, List.set_cons_zero, List.set_cons_succ]
    exact wpAnyH_listed (by kernel_rfl) (HN0.out _ _ (by with_reducible assumption) p c (hp.below hb) _ (hz0.below hb hz0.lt) hl0 ho0 _ (hz1.below hb hz1.lt) hl1 ho1 hn01)
set_option maxRecDepth 1000000 in
set_option maxHeartbeats 8000000 in
theorem tw2_2_1 (w : World) (v0 : Value) (a1 a2 a3 a4 a5 a6 g1 g2 g3 g4 g5 g6 : Nat) (T : List Pr) (m o : Ms) (Htb : ∀ wr, Bx12 w a1 a2 a3 a4 a5 a6 g1 g2 g3 g4 g5 g6 wr → Calls Tryz.prog 39 #[v0, .int .i64 12] wr (MOut wr T)) (Hm1 : ∀ wr, Calls Tryz.prog 29 #[.agg #[.int .u8 a1, .int .u8 a2, .int .u8 a3, .int .u8 a4, .int .u8 a5, .int .u8 a6]] wr fun e w' => e = .returned (msgV m) ∧ Below wr.heap.size wr w') (Hm2 : ∀ wr, Calls Tryz.prog 29 #[.agg #[.int .u8 g1, .int .u8 g2, .int .u8 g3, .int .u8 g4, .int .u8 g5, .int .u8 g6]] wr fun e w' => e = .returned (msgV o) ∧ Below wr.heap.size wr w') (s1 s2 s9 s10 s11 s12 s21 s22 s23 s24 s25 s26 s27 s28 s29 s30 s31 s32 s33 s34 s35 s36 s37 s38 s39 s40 s41 s42 s43 s44 s45 s46 s47 s48 s49 s50 s51 s52 s53 s54 s55 s56 s57 s58 s59 s60 s61 s62 s63 s64 s65 s66 s67 s68 s69 s70 s71 s72 s73 s74 : Value) (Q : Exit → Act → World → Prop) (hQ : ∀ (u13 u14 u15 u16 u17 u18 u19 u20 : Value) (p : Option Addr) (c : Nat) (b7 b8 : Nat) (wx : World), Lw w [(.slice p T.length c, T)] [(b8, o), (b7, m)] [] wx → Q .normal ⟨#[v0, s1, s2, .pointer (some ⟨w.heap.size, 0, none⟩), .bool false, .bool true, .slice p T.length c, .pointer (some ⟨b7, 0, none⟩), .pointer (some ⟨b8, 0, none⟩), s9, s10, s11, s12, u13, u14, u15, u16, u17, u18, u19, u20, s21, s22, s23, s24, s25, s26, s27, s28, s29, s30, s31, s32, s33, s34, s35, s36, s37, s38, s39, s40, s41, s42, s43, s44, s45, s46, s47, s48, s49, s50, s51, s52, s53, s54, s55, s56, s57, s58, s59, s60, s61, s62, s63, s64, s65, s66, s67, s68, s69, s70, s71, s72, s73, s74], []⟩ wx)
    (s6 s7 s20 : Value) (wx : World) (hHeld : Bx12 w a1 a2 a3 a4 a5 a6 g1 g2 g3 g4 g5 g6 wx) (p : Option Addr) (c : Nat) (hp : IsPairs wx (.slice p T.length c) T) (b8 : Nat) (hz1 : Blk wx b8 47 #[.int .i64 0, .string ⟨#[]⟩, .string ⟨#[]⟩, .string ⟨#[]⟩, .string ⟨#[]⟩, .string ⟨#[]⟩, .string ⟨#[]⟩, .int .i64 0]) (hl1 : w.heap.size < b8) (ho1 : OffB b8 p T) :
    wpAnyH Tryz.prog .any (codeOps tw2R) (NoPanic Q) (fun wr => Bx12 w a1 a2 a3 a4 a5 a6 g1 g2 g3 g4 g5 g6 wr) 5 #[true, true, true, true, true, true, true, false, false, true, false, false, false] ⟨#[v0, s1, s2, .pointer (some ⟨w.heap.size, 0, none⟩), .bool false, .bool true, s6, s7, .pointer (some ⟨b8, 0, none⟩), s9, s10, s11, s12, v0, .slice p T.length c, .pointer (some ⟨w.heap.size, 0, none⟩), .agg #[.int .u8 a1, .int .u8 a2, .int .u8 a3, .int .u8 a4, .int .u8 a5, .int .u8 a6], msgV m, .pointer (some ⟨w.heap.size, 6, none⟩), .agg #[.int .u8 g1, .int .u8 g2, .int .u8 g3, .int .u8 g4, .int .u8 g5, .int .u8 g6], s20, s21, s22, s23, s24, s25, s26, s27, s28, s29, s30, s31, s32, s33, s34, s35, s36, s37, s38, s39, s40, s41, s42, s43, s44, s45, s46, s47, s48, s49, s50, s51, s52, s53, s54, s55, s56, s57, s58, s59, s60, s61, s62, s63, s64, s65, s66, s67, s68, s69, s70, s71, s72, s73, s74], []⟩ wx := by
  have HN0 := Lib.hid (tw2_3_1 w v0 a1 a2 a3 a4 a5 a6 g1 g2 g3 g4 g5 g6 T m o Htb Hm1 Hm2 s1 s2 s9 s10 s11 s12 s21 s22 s23 s24 s25 s26 s27 s28 s29 s30 s31 s32 s33 s34 s35 s36 s37 s38 s39 s40 s41 s42 s43 s44 s45 s46 s47 s48 s49 s50 s51 s52 s53 s54 s55 s56 s57 s58 s59 s60 s61 s62 s63 s64 s65 s66 s67 s68 s69 s70 s71 s72 s73 s74 Q hQ)
  have HN1 := Lib.hid (tw2_2_01 w v0 a1 a2 a3 a4 a5 a6 g1 g2 g3 g4 g5 g6 T m o Htb Hm1 Hm2 s1 s2 s9 s10 s11 s12 s21 s22 s23 s24 s25 s26 s27 s28 s29 s30 s31 s32 s33 s34 s35 s36 s37 s38 s39 s40 s41 s42 s43 s44 s45 s46 s47 s48 s49 s50 s51 s52 s53 s54 s55 s56 s57 s58 s59 s60 s61 s62 s63 s64 s65 s66 s67 s68 s69 s70 s71 s72 s73 s74 Q hQ)
  clear hQ
  have hltw := hHeld.b.lt
  conv => arg 3; arg 1; whnf
  dsimp only [codeOps]
  refine wpAnyH_ready (rs := [7, 8]) (by kernel_rfl) (by simp) ?_
  refine AllReadyH.cons (o := _) rfl (fun K hK => ?_) (AllReadyH.cons (o := _) rfl (fun K hK => ?_) AllReadyH.nil)
  · go_simp
    (go_at_call 29; (with_reducible refine (Hm2 _).mono ?_); rintro e x2 ⟨rfl, hb⟩)
    refine hK.out _ _ (by (first | with_reducible assumption | with_reducible exact Bx12.below (by with_reducible assumption) (by with_reducible assumption) | with_reducible exact Bx12.alloc (by with_reducible assumption) _)) (fun hHeld => ?_)
    clear hK K
    try simp only [List.setIfInBounds_toArray, List.set_cons_zero, List.set_cons_succ]
    exact wpAnyH_listed (by kernel_rfl) (HN0.out _ _ _ (by with_reducible assumption) p c (hp.below hb) _ (hz1.below hb hz1.lt) hl1 ho1)
  · go_simp
    refine hK.out _ _ (by (first | with_reducible assumption | with_reducible exact Bx12.below (by with_reducible assumption) (by with_reducible assumption) | with_reducible exact Bx12.alloc (by with_reducible assumption) _)) (fun hHeld => ?_)
    clear hK K
    try simp only [List.setIfInBounds_toArray, List.set_cons_zero, List.set_cons_succ]
    exact wpAnyH_listed (by kernel_rfl) (HN1.out _ _ _ (by with_reducible assumption) p c (hp.alloc _) _ (Blk.new _ _ _) hltw (hp.off_size (Nat.le_refl _)) _ (hz1.alloc _) hl1 ho1 (Nat.ne_of_gt hz1.lt))
set_option maxRecDepth 1000000 in
set_option maxHeartbeats 8000000 in
theorem tw2_2_0 (w : World) (v0 : Value) (a1 a2 a3 a4 a5 a6 g1 g2 g3 g4 g5 g6 : Nat) (T : List Pr) (m o : Ms) (Htb : ∀ wr, Bx12 w a1 a2 a3 a4 a5 a6 g1 g2 g3 g4 g5 g6 wr → Calls Tryz.prog 39 #[v0, .int .i64 12] wr (MOut wr T)) (Hm1 : ∀ wr, Calls Tryz.prog 29 #[.agg #[.int .u8 a1, .int .u8 a2, .int .u8 a3, .int .u8 a4, .int .u8 a5, .int .u8 a6]] wr fun e w' => e = .returned (msgV m) ∧ Below wr.heap.size wr w') (Hm2 : ∀ wr, Calls Tryz.prog 29 #[.agg #[.int .u8 g1, .int .u8 g2, .int .u8 g3, .int .u8 g4, .int .u8 g5, .int .u8 g6]] wr fun e w' => e = .returned (msgV o) ∧ Below wr.heap.size wr w') (s1 s2 s9 s10 s11 s12 s21 s22 s23 s24 s25 s26 s27 s28 s29 s30 s31 s32 s33 s34 s35 s36 s37 s38 s39 s40 s41 s42 s43 s44 s45 s46 s47 s48 s49 s50 s51 s52 s53 s54 s55 s56 s57 s58 s59 s60 s61 s62 s63 s64 s65 s66 s67 s68 s69 s70 s71 s72 s73 s74 : Value) (Q : Exit → Act → World → Prop) (hQ : ∀ (u13 u14 u15 u16 u17 u18 u19 u20 : Value) (p : Option Addr) (c : Nat) (b7 b8 : Nat) (wx : World), Lw w [(.slice p T.length c, T)] [(b8, o), (b7, m)] [] wx → Q .normal ⟨#[v0, s1, s2, .pointer (some ⟨w.heap.size, 0, none⟩), .bool false, .bool true, .slice p T.length c, .pointer (some ⟨b7, 0, none⟩), .pointer (some ⟨b8, 0, none⟩), s9, s10, s11, s12, u13, u14, u15, u16, u17, u18, u19, u20, s21, s22, s23, s24, s25, s26, s27, s28, s29, s30, s31, s32, s33, s34, s35, s36, s37, s38, s39, s40, s41, s42, s43, s44, s45, s46, s47, s48, s49, s50, s51, s52, s53, s54, s55, s56, s57, s58, s59, s60, s61, s62, s63, s64, s65, s66, s67, s68, s69, s70, s71, s72, s73, s74], []⟩ wx)
    (s6 s8 s20 : Value) (wx : World) (hHeld : Bx12 w a1 a2 a3 a4 a5 a6 g1 g2 g3 g4 g5 g6 wx) (p : Option Addr) (c : Nat) (hp : IsPairs wx (.slice p T.length c) T) (b7 : Nat) (hz0 : Blk wx b7 47 #[.int .i64 0, .string ⟨#[]⟩, .string ⟨#[]⟩, .string ⟨#[]⟩, .string ⟨#[]⟩, .string ⟨#[]⟩, .string ⟨#[]⟩, .int .i64 0]) (hl0 : w.heap.size < b7) (ho0 : OffB b7 p T) :
    wpAnyH Tryz.prog .any (codeOps tw2R) (NoPanic Q) (fun wr => Bx12 w a1 a2 a3 a4 a5 a6 g1 g2 g3 g4 g5 g6 wr) 5 #[true, true, true, true, true, true, true, false, true, false, false, false, false] ⟨#[v0, s1, s2, .pointer (some ⟨w.heap.size, 0, none⟩), .bool false, .bool true, s6, .pointer (some ⟨b7, 0, none⟩), s8, s9, s10, s11, s12, v0, .slice p T.length c, .pointer (some ⟨w.heap.size, 0, none⟩), .agg #[.int .u8 a1, .int .u8 a2, .int .u8 a3, .int .u8 a4, .int .u8 a5, .int .u8 a6], msgV m, .pointer (some ⟨w.heap.size, 6, none⟩), .agg #[.int .u8 g1, .int .u8 g2, .int .u8 g3, .int .u8 g4, .int .u8 g5, .int .u8 g6], s20, s21, s22, s23, s24, s25, s26, s27, s28, s29, s30, s31, s32, s33, s34, s35, s36, s37, s38, s39, s40, s41, s42, s43, s44, s45, s46, s47, s48, s49, s50, s51, s52, s53, s54, s55, s56, s57, s58, s59, s60, s61, s62, s63, s64, s65, s66, s67, s68, s69, s70, s71, s72, s73, s74], []⟩ wx := by
  have HN0 := Lib.hid (tw2_3_0 w v0 a1 a2 a3 a4 a5 a6 g1 g2 g3 g4 g5 g6 T m o Htb Hm1 Hm2 s1 s2 s9 s10 s11 s12 s21 s22 s23 s24 s25 s26 s27 s28 s29 s30 s31 s32 s33 s34 s35 s36 s37 s38 s39 s40 s41 s42 s43 s44 s45 s46 s47 s48 s49 s50 s51 s52 s53 s54 s55 s56 s57 s58 s59 s60 s61 s62 s63 s64 s65 s66 s67 s68 s69 s70 s71 s72 s73 s74 Q hQ)
  have HN1 := Lib.hid (tw2_2_01 w v0 a1 a2 a3 a4 a5 a6 g1 g2 g3 g4 g5 g6 T m o Htb Hm1 Hm2 s1 s2 s9 s10 s11 s12 s21 s22 s23 s24 s25 s26 s27 s28 s29 s30 s31 s32 s33 s34 s35 s36 s37 s38 s39 s40 s41 s42 s43 s44 s45 s46 s47 s48 s49 s50 s51 s52 s53 s54 s55 s56 s57 s58 s59 s60 s61 s62 s63 s64 s65 s66 s67 s68 s69 s70 s71 s72 s73 s74 Q hQ)
  clear hQ
  have hltw := hHeld.b.lt
  conv => arg 3; arg 1; whnf
  dsimp only [codeOps]
  refine wpAnyH_ready (rs := [7, 9]) (by kernel_rfl) (by simp) ?_
  refine AllReadyH.cons (o := _) rfl (fun K hK => ?_) (AllReadyH.cons (o := _) rfl (fun K hK => ?_) AllReadyH.nil)
  · go_simp
    (go_at_call 29; (with_reducible refine (Hm2 _).mono ?_); rintro e x2 ⟨rfl, hb⟩)
    refine hK.out _ _ (by (first | with_reducible assumption | with_reducible exact Bx12.below (by with_reducible assumption) (by with_reducible assumption) | with_reducible exact Bx12.alloc (by with_reducible assumption) _)) (fun hHeld => ?_)
    clear hK K
    try simp only [List.setIfInBounds_toArray, List.set_cons_zero, List.set_cons_succ]
    exact wpAnyH_listed (by kernel_rfl) (HN0.out _ _ _ (by with_reducible assumption) p c (hp.below hb) _ (hz0.below hb hz0.lt) hl0 ho0)
  · go_simp
    refine hK.out _ _ (by (first | with_reducible assumption | with_reducible exact Bx12.below (by with_reducible assumption) (by with_reducible assumption) | with_reducible exact Bx12.alloc (by with_reducible assumption) _)) (fun hHeld => ?_)
    clear hK K
    try simp only [List.setIfInBounds_toArray, List.set_cons_zero, List.set_cons_succ]
    exact wpAnyH_listed (by kernel_rfl) (HN1.out _ _ _ (by with_reducible assumption) p c (hp.alloc _) _ (hz0.alloc _) hl0 ho0 _ (Blk.new _ _ _) hltw (hp.off_size (Nat.le_refl _)) (Nat.ne_of_lt hz0.lt))
set_option maxRecDepth 1000000 in
set_option maxHeartbeats 8000000 in
theorem tw2_2_n (w : World) (v0 : Value) (a1 a2 a3 a4 a5 a6 g1 g2 g3 g4 g5 g6 : Nat) (T : List Pr) (m o : Ms) (Htb : ∀ wr, Bx12 w a1 a2 a3 a4 a5 a6 g1 g2 g3 g4 g5 g6 wr → Calls Tryz.prog 39 #[v0, .int .i64 12] wr (MOut wr T)) (Hm1 : ∀ wr, Calls Tryz.prog 29 #[.agg #[.int .u8 a1, .int .u8 a2, .int .u8 a3, .int .u8 a4, .int .u8 a5, .int .u8 a6]] wr fun e w' => e = .returned (msgV m) ∧ Below wr.heap.size wr w') (Hm2 : ∀ wr, Calls Tryz.prog 29 #[.agg #[.int .u8 g1, .int .u8 g2, .int .u8 g3, .int .u8 g4, .int .u8 g5, .int .u8 g6]] wr fun e w' => e = .returned (msgV o) ∧ Below wr.heap.size wr w') (s1 s2 s9 s10 s11 s12 s21 s22 s23 s24 s25 s26 s27 s28 s29 s30 s31 s32 s33 s34 s35 s36 s37 s38 s39 s40 s41 s42 s43 s44 s45 s46 s47 s48 s49 s50 s51 s52 s53 s54 s55 s56 s57 s58 s59 s60 s61 s62 s63 s64 s65 s66 s67 s68 s69 s70 s71 s72 s73 s74 : Value) (Q : Exit → Act → World → Prop) (hQ : ∀ (u13 u14 u15 u16 u17 u18 u19 u20 : Value) (p : Option Addr) (c : Nat) (b7 b8 : Nat) (wx : World), Lw w [(.slice p T.length c, T)] [(b8, o), (b7, m)] [] wx → Q .normal ⟨#[v0, s1, s2, .pointer (some ⟨w.heap.size, 0, none⟩), .bool false, .bool true, .slice p T.length c, .pointer (some ⟨b7, 0, none⟩), .pointer (some ⟨b8, 0, none⟩), s9, s10, s11, s12, u13, u14, u15, u16, u17, u18, u19, u20, s21, s22, s23, s24, s25, s26, s27, s28, s29, s30, s31, s32, s33, s34, s35, s36, s37, s38, s39, s40, s41, s42, s43, s44, s45, s46, s47, s48, s49, s50, s51, s52, s53, s54, s55, s56, s57, s58, s59, s60, s61, s62, s63, s64, s65, s66, s67, s68, s69, s70, s71, s72, s73, s74], []⟩ wx)
    (s6 s7 s8 s20 : Value) (wx : World) (hHeld : Bx12 w a1 a2 a3 a4 a5 a6 g1 g2 g3 g4 g5 g6 wx) (p : Option Addr) (c : Nat) (hp : IsPairs wx (.slice p T.length c) T) :
    wpAnyH Tryz.prog .any (codeOps tw2R) (NoPanic Q) (fun wr => Bx12 w a1 a2 a3 a4 a5 a6 g1 g2 g3 g4 g5 g6 wr) 6 #[true, true, true, true, true, true, true, false, false, false, false, false, false] ⟨#[v0, s1, s2, .pointer (some ⟨w.heap.size, 0, none⟩), .bool false, .bool true, s6, s7, s8, s9, s10, s11, s12, v0, .slice p T.length c, .pointer (some ⟨w.heap.size, 0, none⟩), .agg #[.int .u8 a1, .int .u8 a2, .int .u8 a3, .int .u8 a4, .int .u8 a5, .int .u8 a6], msgV m, .pointer (some ⟨w.heap.size, 6, none⟩), .agg #[.int .u8 g1, .int .u8 g2, .int .u8 g3, .int .u8 g4, .int .u8 g5, .int .u8 g6], s20, s21, s22, s23, s24, s25, s26, s27, s28, s29, s30, s31, s32, s33, s34, s35, s36, s37, s38, s39, s40, s41, s42, s43, s44, s45, s46, s47, s48, s49, s50, s51, s52, s53, s54, s55, s56, s57, s58, s59, s60, s61, s62, s63, s64, s65, s66, s67, s68, s69, s70, s71, s72, s73, s74], []⟩ wx := by
  have HN0 := Lib.hid (tw2_3_n w v0 a1 a2 a3 a4 a5 a6 g1 g2 g3 g4 g5 g6 T m o Htb Hm1 Hm2 s1 s2 s9 s10 s11 s12 s21 s22 s23 s24 s25 s26 s27 s28 s29 s30 s31 s32 s33 s34 s35 s36 s37 s38 s39 s40 s41 s42 s43 s44 s45 s46 s47 s48 s49 s50 s51 s52 s53 s54 s55 s56 s57 s58 s59 s60 s61 s62 s63 s64 s65 s66 s67 s68 s69 s70 s71 s72 s73 s74 Q hQ)
  have HN1 := Lib.hid (tw2_2_0 w v0 a1 a2 a3 a4 a5 a6 g1 g2 g3 g4 g5 g6 T m o Htb Hm1 Hm2 s1 s2 s9 s10 s11 s12 s21 s22 s23 s24 s25 s26 s27 s28 s29 s30 s31 s32 s33 s34 s35 s36 s37 s38 s39 s40 s41 s42 s43 s44 s45 s46 s47 s48 s49 s50 s51 s52 s53 s54 s55 s56 s57 s58 s59 s60 s61 s62 s63 s64 s65 s66 s67 s68 s69 s70 s71 s72 s73 s74 Q hQ)
  have HN2 := Lib.hid (tw2_2_1 w v0 a1 a2 a3 a4 a5 a6 g1 g2 g3 g4 g5 g6 T m o Htb Hm1 Hm2 s1 s2 s9 s10 s11 s12 s21 s22 s23 s24 s25 s26 s27 s28 s29 s30 s31 s32 s33 s34 s35 s36 s37 s38 s39 s40 s41 s42 s43 s44 s45 s46 s47 s48 s49 s50 s51 s52 s53 s54 s55 s56 s57 s58 s59 s60 s61 s62 s63 s64 s65 s66 s67 s68 s69 s70 s71 s72 s73 s74 Q hQ)
  clear hQ
  have hltw := hHeld.b.lt
  conv => arg 3; arg 1; whnf
  dsimp only [codeOps]
  refine wpAnyH_ready (rs := [7, 8, 9]) (by kernel_rfl) (by simp) ?_
  refine AllReadyH.cons (o := _) rfl (fun K hK => ?_) (AllReadyH.cons (o := _) rfl (fun K hK => ?_) (AllReadyH.cons (o := _) rfl (fun K hK => ?_) AllReadyH.nil))
  · go_simp
    (go_at_call 29; (with_reducible refine (Hm2 _).mono ?_); rintro e x2 ⟨rfl, hb⟩)
    refine hK.out _ _ (by (first | with_reducible assumption | with_reducible exact Bx12.below (by with_reducible assumption) (by with_reducible assumption) | with_reducible exact Bx12.alloc (by with_reducible assumption) _)) (fun hHeld => ?_)
    clear hK K
    try simp only [List.setIfInBounds_toArray, List.set_cons_zero, List.set_cons_succ]
    exact wpAnyH_listed (by kernel_rfl) (HN0.out _ _ _ _ (by with_reducible assumption) p c (hp.below hb))
  · go_simp
    refine hK.out _ _ (by (first | with_reducible assumption | with_reducible exact Bx12.below (by with_reducible assumption) (by with_reducible assumption) | with_reducible exact Bx12.alloc (by with_reducible assumption) _)) (fun hHeld => ?_)
    clear hK K
    try simp only [List.setIfInBounds_toArray, List.set_cons_zero, List.set_cons_succ]
    exact wpAnyH_listed (by kernel_rfl) (HN1.out _ _ _ _ (by with_reducible assumption) p c (hp.alloc _) _ (Blk.new _ _ _) hltw (hp.off_size (Nat.le_refl _)))
  · go_simp
    refine hK.out _ _ (by (first | with_reducible assumption | with_reducible exact Bx12.below (by with_reducible assumption) (by with_reducible assumption) | with_reducible exact Bx12.alloc (by with_reducible assumption) _)) (fun hHeld => ?_)
    clear hK K
    try simp only [List.setIfInBounds_toArray, List.set_cons_zero, List.set_cons_succ]
    exact wpAnyH_listed (by kernel_rfl) (HN2.out _ _ _ _ (by with_reducible assumption) p c (hp.alloc _) _ (Blk.new _ _ _) hltw (hp.off_size (Nat.le_refl _)))
set_option maxRecDepth 1000000 in
set_option maxHeartbeats 8000000 in
theorem tw2_1_01 (w : World) (v0 : Value) (a1 a2 a3 a4 a5 a6 g1 g2 g3 g4 g5 g6 : Nat) (T : List Pr) (m o : Ms) (Htb : ∀ wr, Bx12 w a1 a2 a3 a4 a5 a6 g1 g2 g3 g4 g5 g6 wr → Calls Tryz.prog 39 #[v0, .int .i64 12] wr (MOut wr T)) (Hm1 : ∀ wr, Calls Tryz.prog 29 #[.agg #[.int .u8 a1, .int .u8 a2, .int .u8 a3, .int .u8 a4, .int .u8 a5, .int .u8 a6]] wr fun e w' => e = .returned (msgV m) ∧ Below wr.heap.size wr w') (Hm2 : ∀ wr, Calls Tryz.prog 29 #[.agg #[.int .u8 g1, .int .u8 g2, .int .u8 g3, .int .u8 g4, .int .u8 g5, .int .u8 g6]] wr fun e w' => e = .returned (msgV o) ∧ Below wr.heap.size wr w') (s1 s2 s9 s10 s11 s12 s21 s22 s23 s24 s25 s26 s27 s28 s29 s30 s31 s32 s33 s34 s35 s36 s37 s38 s39 s40 s41 s42 s43 s44 s45 s46 s47 s48 s49 s50 s51 s52 s53 s54 s55 s56 s57 s58 s59 s60 s61 s62 s63 s64 s65 s66 s67 s68 s69 s70 s71 s72 s73 s74 : Value) (Q : Exit → Act → World → Prop) (hQ : ∀ (u13 u14 u15 u16 u17 u18 u19 u20 : Value) (p : Option Addr) (c : Nat) (b7 b8 : Nat) (wx : World), Lw w [(.slice p T.length c, T)] [(b8, o), (b7, m)] [] wx → Q .normal ⟨#[v0, s1, s2, .pointer (some ⟨w.heap.size, 0, none⟩), .bool false, .bool true, .slice p T.length c, .pointer (some ⟨b7, 0, none⟩), .pointer (some ⟨b8, 0, none⟩), s9, s10, s11, s12, u13, u14, u15, u16, u17, u18, u19, u20, s21, s22, s23, s24, s25, s26, s27, s28, s29, s30, s31, s32, s33, s34, s35, s36, s37, s38, s39, s40, s41, s42, s43, s44, s45, s46, s47, s48, s49, s50, s51, s52, s53, s54, s55, s56, s57, s58, s59, s60, s61, s62, s63, s64, s65, s66, s67, s68, s69, s70, s71, s72, s73, s74], []⟩ wx)
    (s6 s17 s20 : Value) (wx : World) (hHeld : Bx12 w a1 a2 a3 a4 a5 a6 g1 g2 g3 g4 g5 g6 wx) (p : Option Addr) (c : Nat) (hp : IsPairs wx (.slice p T.length c) T) (b7 : Nat) (hz0 : Blk wx b7 47 #[.int .i64 0, .string ⟨#[]⟩, .string ⟨#[]⟩, .string ⟨#[]⟩, .string ⟨#[]⟩, .string ⟨#[]⟩, .string ⟨#[]⟩, .int .i64 0]) (hl0 : w.heap.size < b7) (ho0 : OffB b7 p T) (b8 : Nat) (hz1 : Blk wx b8 47 #[.int .i64 0, .string ⟨#[]⟩, .string ⟨#[]⟩, .string ⟨#[]⟩, .string ⟨#[]⟩, .string ⟨#[]⟩, .string ⟨#[]⟩, .int .i64 0]) (hl1 : w.heap.size < b8) (ho1 : OffB b8 p T) (hn01 : b7 ≠ b8) :
    wpAnyH Tryz.prog .any (codeOps tw2R) (NoPanic Q) (fun wr => Bx12 w a1 a2 a3 a4 a5 a6 g1 g2 g3 g4 g5 g6 wr) 5 #[true, true, true, true, false, true, true, false, true, true, false, false, false] ⟨#[v0, s1, s2, .pointer (some ⟨w.heap.size, 0, none⟩), .bool false, .bool true, s6, .pointer (some ⟨b7, 0, none⟩), .pointer (some ⟨b8, 0, none⟩), s9, s10, s11, s12, v0, .slice p T.length c, .pointer (some ⟨w.heap.size, 0, none⟩), .agg #[.int .u8 a1, .int .u8 a2, .int .u8 a3, .int .u8 a4, .int .u8 a5, .int .u8 a6], s17, .pointer (some ⟨w.heap.size, 6, none⟩), .agg #[.int .u8 g1, .int .u8 g2, .int .u8 g3, .int .u8 g4, .int .u8 g5, .int .u8 g6], s20, s21, s22, s23, s24, s25, s26, s27, s28, s29, s30, s31, s32, s33, s34, s35, s36, s37, s38, s39, s40, s41, s42, s43, s44, s45, s46, s47, s48, s49, s50, s51, s52, s53, s54, s55, s56, s57, s58, s59, s60, s61, s62, s63, s64, s65, s66, s67, s68, s69, s70, s71, s72, s73, s74], []⟩ wx := by
  have HN0 := Lib.hid (tw2_2_01 w v0 a1 a2 a3 a4 a5 a6 g1 g2 g3 g4 g5 g6 T m o Htb Hm1 Hm2 s1 s2 s9 s10 s11 s12 s21 s22 s23 s24 s25 s26 s27 s28 s29 s30 s31 s32 s33 s34 s35 s36 s37 s38 s39 s40 s41 s42 s43 s44 s45 s46 s47 s48 s49 s50 s51 s52 s53 s54 s55 s56 s57 s58 s59 s60 s61 s62 s63 s64 s65 s66 s67 s68 s69 s70 s71 s72 s73 s74 Q hQ)
  clear hQ
  have hltw := hHeld.b.lt
  conv => arg 3; arg 1; whnf
  dsimp only [codeOps]
  refine wpAnyH_ready (rs := [4]) (by kernel_rfl) (by simp) ?_
  refine AllReadyH.cons (o := _) rfl (fun K hK => ?_) AllReadyH.nil
  · go_simp
    (go_at_call 29; (with_reducible refine (Hm1 _).mono ?_); rintro e x2 ⟨rfl, hb⟩)
    refine hK.out _ _ (by (first | with_reducible assumption | with_reducible exact Bx12.below (by with_reducible assumption) (by with_reducible assumption) | with_reducible exact Bx12.alloc (by with_reducible assumption) _)) (fun hHeld => ?_)
    clear hK K
    try simp only [List.setIfInBounds_toArray, List.set_cons_zero, List.set_cons_succ]
    exact wpAnyH_listed (by kernel_rfl) (HN0.out _ _ _ (by with_reducible assumption) p c (hp.below hb) _ (hz0.below hb hz0.lt) hl0 ho0 _ (hz1.below hb hz1.lt) hl1 ho1 hn01)
set_option maxRecDepth 1000000 in
set_option maxHeartbeats 8000000 in
theorem tw2_1_1 (w : World) (v0 : Value) (a1 a2 a3 a4 a5 a6 g1 g2 g3 g4 g5 g6 : Nat) (T : List Pr) (m o : Ms) (Htb : ∀ wr, Bx12 w a1 a2 a3 a4 a5 a6 g1 g2 g3 g4 g5 g6 wr → Calls Tryz.prog 39 #[v0, .int .i64 12] wr (MOut wr T)) (Hm1 : ∀ wr, Calls Tryz.prog 29 #[.agg #[.int .u8 a1, .int .u8 a2, .int .u8 a3, .int .u8 a4, .int .u8 a5, .int .u8 a6]] wr fun e w' => e = .returned (msgV m) ∧ Below wr.heap.size wr w') (Hm2 : ∀ wr, Calls Tryz.prog 29 #[.agg #[.int .u8 g1, .int .u8 g2, .int .u8 g3, .int .u8 g4, .int .u8 g5, .int .u8 g6]] wr fun e w' => e = .returned (msgV o) ∧ Below wr.heap.size wr w') (s1 s2 s9 s10 s11 s12 s21 s22 s23 s24 s25 s26 s27 s28 s29 s30 s31 s32 s33 s34 s35 s36 s37 s38 s39 s40 s41 s42 s43 s44 s45 s46 s47 s48 s49 s50 s51 s52 s53 s54 s55 s56 s57 s58 s59 s60 s61 s62 s63 s64 s65 s66 s67 s68 s69 s70 s71 s72 s73 s74 : Value) (Q : Exit → Act → World → Prop) (hQ : ∀ (u13 u14 u15 u16 u17 u18 u19 u20 : Value) (p : Option Addr) (c : Nat) (b7 b8 : Nat) (wx : World), Lw w [(.slice p T.length c, T)] [(b8, o), (b7, m)] [] wx → Q .normal ⟨#[v0, s1, s2, .pointer (some ⟨w.heap.size, 0, none⟩), .bool false, .bool true, .slice p T.length c, .pointer (some ⟨b7, 0, none⟩), .pointer (some ⟨b8, 0, none⟩), s9, s10, s11, s12, u13, u14, u15, u16, u17, u18, u19, u20, s21, s22, s23, s24, s25, s26, s27, s28, s29, s30, s31, s32, s33, s34, s35, s36, s37, s38, s39, s40, s41, s42, s43, s44, s45, s46, s47, s48, s49, s50, s51, s52, s53, s54, s55, s56, s57, s58, s59, s60, s61, s62, s63, s64, s65, s66, s67, s68, s69, s70, s71, s72, s73, s74], []⟩ wx)
    (s6 s7 s17 s20 : Value) (wx : World) (hHeld : Bx12 w a1 a2 a3 a4 a5 a6 g1 g2 g3 g4 g5 g6 wx) (p : Option Addr) (c : Nat) (hp : IsPairs wx (.slice p T.length c) T) (b8 : Nat) (hz1 : Blk wx b8 47 #[.int .i64 0, .string ⟨#[]⟩, .string ⟨#[]⟩, .string ⟨#[]⟩, .string ⟨#[]⟩, .string ⟨#[]⟩, .string ⟨#[]⟩, .int .i64 0]) (hl1 : w.heap.size < b8) (ho1 : OffB b8 p T) :
    wpAnyH Tryz.prog .any (codeOps tw2R) (NoPanic Q) (fun wr => Bx12 w a1 a2 a3 a4 a5 a6 g1 g2 g3 g4 g5 g6 wr) 6 #[true, true, true, true, false, true, true, false, false, true, false, false, false] ⟨#[v0, s1, s2, .pointer (some ⟨w.heap.size, 0, none⟩), .bool false, .bool true, s6, s7, .pointer (some ⟨b8, 0, none⟩), s9, s10, s11, s12, v0, .slice p T.length c, .pointer (some ⟨w.heap.size, 0, none⟩), .agg #[.int .u8 a1, .int .u8 a2, .int .u8 a3, .int .u8 a4, .int .u8 a5, .int .u8 a6], s17, .pointer (some ⟨w.heap.size, 6, none⟩), .agg #[.int .u8 g1, .int .u8 g2, .int .u8 g3, .int .u8 g4, .int .u8 g5, .int .u8 g6], s20, s21, s22, s23, s24, s25, s26, s27, s28, s29, s30, s31, s32, s33, s34, s35, s36, s37, s38, s39, s40, s41, s42, s43, s44, s45, s46, s47, s48, s49, s50, s51, s52, s53, s54, s55, s56, s57, s58, s59, s60, s61, s62, s63, s64, s65, s66, s67, s68, s69, s70, s71, s72, s73, s74], []⟩ wx := by
  have HN0 := Lib.hid (tw2_2_1 w v0 a1 a2 a3 a4 a5 a6 g1 g2 g3 g4 g5 g6 T m o Htb Hm1 Hm2 s1 s2 s9 s10 s11 s12 s21 s22 s23 s24 s25 s26 s27 s28 s29 s30 s31 s32 s33 s34 s35 s36 s37 s38 s39 s40 s41 s42 s43 s44 s45 s46 s47 s48 s49 s50 s51 s52 s53 s54 s55 s56 s57 s58 s59 s60 s61 s62 s63 s64 s65 s66 s67 s68 s69 s70 s71 s72 s73 s74 Q hQ)
  have HN1 := Lib.hid (tw2_1_01 w v0 a1 a2 a3 a4 a5 a6 g1 g2 g3 g4 g5 g6 T m o Htb Hm1 Hm2 s1 s2 s9 s10 s11 s12 s21 s22 s23 s24 s25 s26 s27 s28 s29 s30 s31 s32 s33 s34 s35 s36 s37 s38 s39 s40 s41 s42 s43 s44 s45 s46 s47 s48 s49 s50 s51 s52 s53 s54 s55 s56 s57 s58 s59 s60 s61 s62 s63 s64 s65 s66 s67 s68 s69 s70 s71 s72 s73 s74 Q hQ)
  clear hQ
  have hltw := hHeld.b.lt
  conv => arg 3; arg 1; whnf
  dsimp only [codeOps]
  refine wpAnyH_ready (rs := [4, 8]) (by kernel_rfl) (by simp) ?_
  refine AllReadyH.cons (o := _) rfl (fun K hK => ?_) (AllReadyH.cons (o := _) rfl (fun K hK => ?_) AllReadyH.nil)
  · go_simp
    (go_at_call 29; (with_reducible refine (Hm1 _).mono ?_); rintro e x2 ⟨rfl, hb⟩)
    refine hK.out _ _ (by (first | with_reducible assumption | with_reducible exact Bx12.below (by with_reducible assumption) (by with_reducible assumption) | with_reducible exact Bx12.alloc (by with_reducible assumption) _)) (fun hHeld => ?_)
    clear hK K
    try simp only [List.setIfInBounds_toArray, List.set_cons_zero, List.set_cons_succ]
    exact wpAnyH_listed (by kernel_rfl) (HN0.out _ _ _ _ (by with_reducible assumption) p c (hp.below hb) _ (hz1.below hb hz1.lt) hl1 ho1)
  · go_simp
    refine hK.out _ _ (by (first | with_reducible assumption | with_reducible exact Bx12.below (by with_reducible assumption) (by with_reducible assumption) | with_reducible exact Bx12.alloc (by with_reducible assumption) _)) (fun hHeld => ?_)
    clear hK K
    try simp only [List.setIfInBounds_toArray, List.set_cons_zero, List.set_cons_succ]
    exact wpAnyH_listed (by kernel_rfl) (HN1.out _ _ _ _ (by with_reducible assumption) p c (hp.alloc _) _ (Blk.new _ _ _) hltw (hp.off_size (Nat.le_refl _)) _ (hz1.alloc _) hl1 ho1 (Nat.ne_of_gt hz1.lt))
set_option maxRecDepth 1000000 in
set_option maxHeartbeats 8000000 in
theorem tw2_1_0 (w : World) (v0 : Value) (a1 a2 a3 a4 a5 a6 g1 g2 g3 g4 g5 g6 : Nat) (T : List Pr) (m o : Ms) (Htb : ∀ wr, Bx12 w a1 a2 a3 a4 a5 a6 g1 g2 g3 g4 g5 g6 wr → Calls Tryz.prog 39 #[v0, .int .i64 12] wr (MOut wr T)) (Hm1 : ∀ wr, Calls Tryz.prog 29 #[.agg #[.int .u8 a1, .int .u8 a2, .int .u8 a3, .int .u8 a4, .int .u8 a5, .int .u8 a6]] wr fun e w' => e = .returned (msgV m) ∧ Below wr.heap.size wr w') (Hm2 : ∀ wr, Calls Tryz.prog 29 #[.agg #[.int .u8 g1, .int .u8 g2, .int .u8 g3, .int .u8 g4, .int .u8 g5, .int .u8 g6]] wr fun e w' => e = .returned (msgV o) ∧ Below wr.heap.size wr w') (s1 s2 s9 s10 s11 s12 s21 s22 s23 s24 s25 s26 s27 s28 s29 s30 s31 s32 s33 s34 s35 s36 s37 s38 s39 s40 s41 s42 s43 s44 s45 s46 s47 s48 s49 s50 s51 s52 s53 s54 s55 s56 s57 s58 s59 s60 s61 s62 s63 s64 s65 s66 s67 s68 s69 s70 s71 s72 s73 s74 : Value) (Q : Exit → Act → World → Prop) (hQ : ∀ (u13 u14 u15 u16 u17 u18 u19 u20 : Value) (p : Option Addr) (c : Nat) (b7 b8 : Nat) (wx : World), Lw w [(.slice p T.length c, T)] [(b8, o), (b7, m)] [] wx → Q .normal ⟨#[v0, s1, s2, .pointer (some ⟨w.heap.size, 0, none⟩), .bool false, .bool true, .slice p T.length c, .pointer (some ⟨b7, 0, none⟩), .pointer (some ⟨b8, 0, none⟩), s9, s10, s11, s12, u13, u14, u15, u16, u17, u18, u19, u20, s21, s22, s23, s24, s25, s26, s27, s28, s29, s30, s31, s32, s33, s34, s35, s36, s37, s38, s39, s40, s41, s42, s43, s44, s45, s46, s47, s48, s49, s50, s51, s52, s53, s54, s55, s56, s57, s58, s59, s60, s61, s62, s63, s64, s65, s66, s67, s68, s69, s70, s71, s72, s73, s74], []⟩ wx)
    (s6 s8 s17 s20 : Value) (wx : World) (hHeld : Bx12 w a1 a2 a3 a4 a5 a6 g1 g2 g3 g4 g5 g6 wx) (p : Option Addr) (c : Nat) (hp : IsPairs wx (.slice p T.length c) T) (b7 : Nat) (hz0 : Blk wx b7 47 #[.int .i64 0, .string ⟨#[]⟩, .string ⟨#[]⟩, .string ⟨#[]⟩, .string ⟨#[]⟩, .string ⟨#[]⟩, .string ⟨#[]⟩, .int .i64 0]) (hl0 : w.heap.size < b7) (ho0 : OffB b7 p T) :
    wpAnyH Tryz.prog .any (codeOps tw2R) (NoPanic Q) (fun wr => Bx12 w a1 a2 a3 a4 a5 a6 g1 g2 g3 g4 g5 g6 wr) 6 #[true, true, true, true, false, true, true, false, true, false, false, false, false] ⟨#[v0, s1, s2, .pointer (some ⟨w.heap.size, 0, none⟩), .bool false, .bool true, s6, .pointer (some ⟨b7, 0, none⟩), s8, s9, s10, s11, s12, v0, .slice p T.length c, .pointer (some ⟨w.heap.size, 0, none⟩), .agg #[.int .u8 a1, .int .u8 a2, .int .u8 a3, .int .u8 a4, .int .u8 a5, .int .u8 a6], s17, .pointer (some ⟨w.heap.size, 6, none⟩), .agg #[.int .u8 g1, .int .u8 g2, .int .u8 g3, .int .u8 g4, .int .u8 g5, .int .u8 g6], s20, s21, s22, s23, s24, s25, s26, s27, s28, s29, s30, s31, s32, s33, s34, s35, s36, s37, s38, s39, s40, s41, s42, s43, s44, s45, s46, s47, s48, s49, s50, s51, s52, s53, s54, s55, s56, s57, s58, s59, s60, s61, s62, s63, s64, s65, s66, s67, s68, s69, s70, s71, s72, s73, s74], []⟩ wx := by
  have HN0 := Lib.hid (tw2_2_0 w v0 a1 a2 a3 a4 a5 a6 g1 g2 g3 g4 g5 g6 T m o Htb Hm1 Hm2 s1 s2 s9 s10 s11 s12 s21 s22 s23 s24 s25 s26 s27 s28 s29 s30 s31 s32 s33 s34 s35 s36 s37 s38 s39 s40 s41 s42 s43 s44 s45 s46 s47 s48 s49 s50 s51 s52 s53 s54 s55 s56 s57 s58 s59 s60 s61 s62 s63 s64 s65 s66 s67 s68 s69 s70 s71 s72 s73 s74 Q hQ)
  have HN1 := Lib.hid (tw2_1_01 w v0 a1 a2 a3 a4 a5 a6 g1 g2 g3 g4 g5 g6 T m o Htb Hm1 Hm2 s1 s2 s9 s10 s11 s12 s21 s22 s23 s24 s25 s26 s27 s28 s29 s30 s31 s32 s33 s34 s35 s36 s37 s38 s39 s40 s41 s42 s43 s44 s45 s46 s47 s48 s49 s50 s51 s52 s53 s54 s55 s56 s57 s58 s59 s60 s61 s62 s63 s64 s65 s66 s67 s68 s69 s70 s71 s72 s73 s74 Q hQ)
  clear hQ
  have hltw := hHeld.b.lt
  conv => arg 3; arg 1; whnf
  dsimp only [codeOps]
  refine wpAnyH_ready (rs := [4, 9]) (by kernel_rfl) (by simp) ?_
  refine AllReadyH.cons (o := _) rfl (fun K hK => ?_) (AllReadyH.cons (o := _) rfl (fun K hK => ?_) AllReadyH.nil)
  · go_simp
    (go_at_call 29; (with_reducible refine (Hm1 _).mono ?_); rintro e x2 ⟨rfl, hb⟩)
    refine hK.out _ _ (by (first | with_reducible assumption | with_reducible exact Bx12.below (by with_reducible assumption) (by with_reducible assumption) | with_reducible exact Bx12.alloc (by with_reducible assumption) _)) (fun hHeld => ?_)
    clear hK K
    try simp only [List.setIfInBounds_toArray, List.set_cons_zero, List.set_cons_succ]
    exact wpAnyH_listed (by kernel_rfl) (HN0.out _ _ _ _ (by with_reducible assumption) p c (hp.below hb) _ (hz0.below hb hz0.lt) hl0 ho0)
  · go_simp
    refine hK.out _ _ (by (first | with_reducible assumption | with_reducible exact Bx12.below (by with_reducible assumption) (by with_reducible assumption) | with_reducible exact Bx12.alloc (by with_reducible assumption) _)) (fun hHeld => ?_)
    clear hK K
    try simp only [List.setIfInBounds_toArray, List.set_cons_zero, List.set_cons_succ]
    exact wpAnyH_listed (by kernel_rfl) (HN1.out _ _ _ _ (by with_reducible assumption) p c (hp.alloc _) _ (hz0.alloc _) hl0 ho0 _ (Blk.new _ _ _) hltw (hp.off_size (Nat.le_refl _)) (Nat.ne_of_lt hz0.lt))
set_option maxRecDepth 1000000 in
set_option maxHeartbeats 8000000 in
theorem tw2_1_n (w : World) (v0 : Value) (a1 a2 a3 a4 a5 a6 g1 g2 g3 g4 g5 g6 : Nat) (T : List Pr) (m o : Ms) (Htb : ∀ wr, Bx12 w a1 a2 a3 a4 a5 a6 g1 g2 g3 g4 g5 g6 wr → Calls Tryz.prog 39 #[v0, .int .i64 12] wr (MOut wr T)) (Hm1 : ∀ wr, Calls Tryz.prog 29 #[.agg #[.int .u8 a1, .int .u8 a2, .int .u8 a3, .int .u8 a4, .int .u8 a5, .int .u8 a6]] wr fun e w' => e = .returned (msgV m) ∧ Below wr.heap.size wr w') (Hm2 : ∀ wr, Calls Tryz.prog 29 #[.agg #[.int .u8 g1, .int .u8 g2, .int .u8 g3, .int .u8 g4, .int .u8 g5, .int .u8 g6]] wr fun e w' => e = .returned (msgV o) ∧ Below wr.heap.size wr w') (s1 s2 s9 s10 s11 s12 s21 s22 s23 s24 s25 s26 s27 s28 s29 s30 s31 s32 s33 s34 s35 s36 s37 s38 s39 s40 s41 s42 s43 s44 s45 s46 s47 s48 s49 s50 s51 s52 s53 s54 s55 s56 s57 s58 s59 s60 s61 s62 s63 s64 s65 s66 s67 s68 s69 s70 s71 s72 s73 s74 : Value) (Q : Exit → Act → World → Prop) (hQ : ∀ (u13 u14 u15 u16 u17 u18 u19 u20 : Value) (p : Option Addr) (c : Nat) (b7 b8 : Nat) (wx : World), Lw w [(.slice p T.length c, T)] [(b8, o), (b7, m)] [] wx → Q .normal ⟨#[v0, s1, s2, .pointer (some ⟨w.heap.size, 0, none⟩), .bool false, .bool true, .slice p T.length c, .pointer (some ⟨b7, 0, none⟩), .pointer (some ⟨b8, 0, none⟩), s9, s10, s11, s12, u13, u14, u15, u16, u17, u18, u19, u20, s21, s22, s23, s24, s25, s26, s27, s28, s29, s30, s31, s32, s33, s34, s35, s36, s37, s38, s39, s40, s41, s42, s43, s44, s45, s46, s47, s48, s49, s50, s51, s52, s53, s54, s55, s56, s57, s58, s59, s60, s61, s62, s63, s64, s65, s66, s67, s68, s69, s70, s71, s72, s73, s74], []⟩ wx)
    (s6 s7 s8 s17 s20 : Value) (wx : World) (hHeld : Bx12 w a1 a2 a3 a4 a5 a6 g1 g2 g3 g4 g5 g6 wx) (p : Option Addr) (c : Nat) (hp : IsPairs wx (.slice p T.length c) T) :
    wpAnyH Tryz.prog .any (codeOps tw2R) (NoPanic Q) (fun wr => Bx12 w a1 a2 a3 a4 a5 a6 g1 g2 g3 g4 g5 g6 wr) 7 #[true, true, true, true, false, true, true, false, false, false, false, false, false] ⟨#[v0, s1, s2, .pointer (some ⟨w.heap.size, 0, none⟩), .bool false, .bool true, s6, s7, s8, s9, s10, s11, s12, v0, .slice p T.length c, .pointer (some ⟨w.heap.size, 0, none⟩), .agg #[.int .u8 a1, .int .u8 a2, .int .u8 a3, .int .u8 a4, .int .u8 a5, .int .u8 a6], s17, .pointer (some ⟨w.heap.size, 6, none⟩), .agg #[.int .u8 g1, .int .u8 g2, .int .u8 g3, .int .u8 g4, .int .u8 g5, .int .u8 g6], s20, s21, s22, s23, s24, s25, s26, s27, s28, s29, s30, s31, s32, s33, s34, s35, s36, s37, s38, s39, s40, s41, s42, s43, s44, s45, s46, s47, s48, s49, s50, s51, s52, s53, s54, s55, s56, s57, s58, s59, s60, s61, s62, s63, s64, s65, s66, s67, s68, s69, s70, s71, s72, s73, s74], []⟩ wx := by
  have HN0 := Lib.hid (tw2_2_n w v0 a1 a2 a3 a4 a5 a6 g1 g2 g3 g4 g5 g6 T m o Htb Hm1 Hm2 s1 s2 s9 s10 s11 s12 s21 s22 s23 s24 s25 s26 s27 s28 s29 s30 s31 s32 s33 s34 s35 s36 s37 s38 s39 s40 s41 s42 s43 s44 s45 s46 s47 s48 s49 s50 s51 s52 s53 s54 s55 s56 s57 s58 s59 s60 s61 s62 s63 s64 s65 s66 s67 s68 s69 s70 s71 s72 s73 s74 Q hQ)
  have HN1 := Lib.hid (tw2_1_0 w v0 a1 a2 a3 a4 a5 a6 g1 g2 g3 g4 g5 g6 T m o Htb Hm1 Hm2 s1 s2 s9 s10 s11 s12 s21 s22 s23 s24 s25 s26 s27 s28 s29 s30 s31 s32 s33 s34 s35 s36 s37 s38 s39 s40 s41 s42 s43 s44 s45 s46 s47 s48 s49 s50 s51 s52 s53 s54 s55 s56 s57 s58 s59 s60 s61 s62 s63 s64 s65 s66 s67 s68 s69 s70 s71 s72 s73 s74 Q hQ)
  have HN2 := Lib.hid (tw2_1_1 w v0 a1 a2 a3 a4 a5 a6 g1 g2 g3 g4 g5 g6 T m o Htb Hm1 Hm2 s1 s2 s9 s10 s11 s12 s21 s22 s23 s24 s25 s26 s27 s28 s29 s30 s31 s32 s33 s34 s35 s36 s37 s38 s39 s40 s41 s42 s43 s44 s45 s46 s47 s48 s49 s50 s51 s52 s53 s54 s55 s56 s57 s58 s59 s60 s61 s62 s63 s64 s65 s66 s67 s68 s69 s70 s71 s72 s73 s74 Q hQ)
  clear hQ
  have hltw := hHeld.b.lt
  conv => arg 3; arg 1; whnf
  dsimp only [codeOps]
  refine wpAnyH_ready (rs := [4, 8, 9]) (by kernel_rfl) (by simp) ?_
  refine AllReadyH.cons (o := _) rfl (fun K hK => ?_) (AllReadyH.cons (o := _) rfl (fun K hK => ?_) (AllReadyH.cons (o := _) rfl (fun K hK => ?_) AllReadyH.nil))
  · go_simp
    (go_at_call 29; (with_reducible refine (Hm1 _).mono ?_); rintro e x2 ⟨rfl, hb⟩)
    refine hK.out _ _ (by (first | with_reducible assumption | with_reducible exact Bx12.below (by with_reducible assumption) (by with_reducible assumption) | with_reducible exact Bx12.alloc (by with_reducible assumption) _)) (fun hHeld => ?_)
    clear hK K
    try simp only [List.setIfInBounds_toArray, List.set_cons_zero, List.set_cons_succ]
    exact wpAnyH_listed (by kernel_rfl) (HN0.out _ _ _ _ _ (by with_reducible assumption) p c (hp.below hb))
  · go_simp
    refine hK.out _ _ (by (first | with_reducible assumption | with_reducible exact Bx12.below (by with_reducible assumption) (by with_reducible assumption) | with_reducible exact Bx12.alloc (by with_reducible assumption) _)) (fun hHeld => ?_)
    clear hK K
    try simp only [List.setIfInBounds_toArray, List.set_cons_zero, List.set_cons_succ]
    exact wpAnyH_listed (by kernel_rfl) (HN1.out _ _ _ _ _ (by with_reducible assumption) p c (hp.alloc _) _ (Blk.new _ _ _) hltw (hp.off_size (Nat.le_refl _)))
  · go_simp
    refine hK.out _ _ (by (first | with_reducible assumption | with_reducible exact Bx12.below (by with_reducible assumption) (by with_reducible assumption) | with_reducible exact Bx12.alloc (by with_reducible assumption) _)) (fun hHeld => ?_)
    clear hK K
    try simp only [List.setIfInBounds_toArray, List.set_cons_zero, List.set_cons_succ]
    exact wpAnyH_listed (by kernel_rfl) (HN2.out _ _ _ _ _ (by with_reducible assumption) p c (hp.alloc _) _ (Blk.new _ _ _) hltw (hp.off_size (Nat.le_refl _)))
set_option maxRecDepth 1000000 in
set_option maxHeartbeats 8000000 in
theorem tw2_0_01 (w : World) (v0 : Value) (a1 a2 a3 a4 a5 a6 g1 g2 g3 g4 g5 g6 : Nat) (T : List Pr) (m o : Ms) (Htb : ∀ wr, Bx12 w a1 a2 a3 a4 a5 a6 g1 g2 g3 g4 g5 g6 wr → Calls Tryz.prog 39 #[v0, .int .i64 12] wr (MOut wr T)) (Hm1 : ∀ wr, Calls Tryz.prog 29 #[.agg #[.int .u8 a1, .int .u8 a2, .int .u8 a3, .int .u8 a4, .int .u8 a5, .int .u8 a6]] wr fun e w' => e = .returned (msgV m) ∧ Below wr.heap.size wr w') (Hm2 : ∀ wr, Calls Tryz.prog 29 #[.agg #[.int .u8 g1, .int .u8 g2, .int .u8 g3, .int .u8 g4, .int .u8 g5, .int .u8 g6]] wr fun e w' => e = .returned (msgV o) ∧ Below wr.heap.size wr w') (s1 s2 s9 s10 s11 s12 s21 s22 s23 s24 s25 s26 s27 s28 s29 s30 s31 s32 s33 s34 s35 s36 s37 s38 s39 s40 s41 s42 s43 s44 s45 s46 s47 s48 s49 s50 s51 s52 s53 s54 s55 s56 s57 s58 s59 s60 s61 s62 s63 s64 s65 s66 s67 s68 s69 s70 s71 s72 s73 s74 : Value) (Q : Exit → Act → World → Prop) (hQ : ∀ (u13 u14 u15 u16 u17 u18 u19 u20 : Value) (p : Option Addr) (c : Nat) (b7 b8 : Nat) (wx : World), Lw w [(.slice p T.length c, T)] [(b8, o), (b7, m)] [] wx → Q .normal ⟨#[v0, s1, s2, .pointer (some ⟨w.heap.size, 0, none⟩), .bool false, .bool true, .slice p T.length c, .pointer (some ⟨b7, 0, none⟩), .pointer (some ⟨b8, 0, none⟩), s9, s10, s11, s12, u13, u14, u15, u16, u17, u18, u19, u20, s21, s22, s23, s24, s25, s26, s27, s28, s29, s30, s31, s32, s33, s34, s35, s36, s37, s38, s39, s40, s41, s42, s43, s44, s45, s46, s47, s48, s49, s50, s51, s52, s53, s54, s55, s56, s57, s58, s59, s60, s61, s62, s63, s64, s65, s66, s67, s68, s69, s70, s71, s72, s73, s74], []⟩ wx)
    (s6 s14 s17 s20 : Value) (wx : World) (hHeld : Bx12 w a1 a2 a3 a4 a5 a6 g1 g2 g3 g4 g5 g6 wx) (b7 : Nat) (hz0 : Blk wx b7 47 #[.int .i64 0, .string ⟨#[]⟩, .string ⟨#[]⟩, .string ⟨#[]⟩, .string ⟨#[]⟩, .string ⟨#[]⟩, .string ⟨#[]⟩, .int .i64 0]) (hl0 : w.heap.size < b7) (b8 : Nat) (hz1 : Blk wx b8 47 #[.int .i64 0, .string ⟨#[]⟩, .string ⟨#[]⟩, .string ⟨#[]⟩, .string ⟨#[]⟩, .string ⟨#[]⟩, .string ⟨#[]⟩, .int .i64 0]) (hl1 : w.heap.size < b8) (hn01 : b7 ≠ b8) :
    wpAnyH Tryz.prog .any (codeOps tw2R) (NoPanic Q) (fun wr => Bx12 w a1 a2 a3 a4 a5 a6 g1 g2 g3 g4 g5 g6 wr) 6 #[true, false, true, true, false, true, true, false, true, true, false, false, false] ⟨#[v0, s1, s2, .pointer (some ⟨w.heap.size, 0, none⟩), .bool false, .bool true, s6, .pointer (some ⟨b7, 0, none⟩), .pointer (some ⟨b8, 0, none⟩), s9, s10, s11, s12, v0, s14, .pointer (some ⟨w.heap.size, 0, none⟩), .agg #[.int .u8 a1, .int .u8 a2, .int .u8 a3, .int .u8 a4, .int .u8 a5, .int .u8 a6], s17, .pointer (some ⟨w.heap.size, 6, none⟩), .agg #[.int .u8 g1, .int .u8 g2, .int .u8 g3, .int .u8 g4, .int .u8 g5, .int .u8 g6], s20, s21, s22, s23, s24, s25, s26, s27, s28, s29, s30, s31, s32, s33, s34, s35, s36, s37, s38, s39, s40, s41, s42, s43, s44, s45, s46, s47, s48, s49, s50, s51, s52, s53, s54, s55, s56, s57, s58, s59, s60, s61, s62, s63, s64, s65, s66, s67, s68, s69, s70, s71, s72, s73, s74], []⟩ wx := by
  have HN0 := Lib.hid (tw2_1_01 w v0 a1 a2 a3 a4 a5 a6 g1 g2 g3 g4 g5 g6 T m o Htb Hm1 Hm2 s1 s2 s9 s10 s11 s12 s21 s22 s23 s24 s25 s26 s27 s28 s29 s30 s31 s32 s33 s34 s35 s36 s37 s38 s39 s40 s41 s42 s43 s44 s45 s46 s47 s48 s49 s50 s51 s52 s53 s54 s55 s56 s57 s58 s59 s60 s61 s62 s63 s64 s65 s66 s67 s68 s69 s70 s71 s72 s73 s74 Q hQ)
  clear hQ
  have hltw := hHeld.b.lt
  conv => arg 3; arg 1; whnf
  dsimp only [codeOps]
  refine wpAnyH_ready (rs := [1]) (by kernel_rfl) (by simp) ?_
  refine AllReadyH.cons (o := _) rfl (fun K hK => ?_) AllReadyH.nil
  · go_simp
    (go_at_call 39; (with_reducible refine (Htb _ hHeld).mono ?_); rintro e x2 ⟨p, c, rfl, hp, ho, hb⟩)
    refine hK.out _ _ (by (first | with_reducible assumption | with_reducible exact Bx12.below (by with_reducible assumption) (by with_reducible assumption) | with_reducible exact Bx12.alloc (by with_reducible assumption) _)) (fun hHeld => ?_)
    clear hK K
    try simp only [List.setIfInBounds_toArray, List.set_cons_zero, List.set_cons_succ]
    exact wpAnyH_listed (by kernel_rfl) (HN0.out _ _ _ _ (by with_reducible assumption) p c hp _ (hz0.below hb hz0.lt) hl0 (ho _ hz0.lt) _ (hz1.below hb hz1.lt) hl1 (ho _ hz1.lt) hn01)
set_option maxRecDepth 1000000 in
set_option maxHeartbeats 8000000 in
theorem tw2_0_1 (w : World) (v0 : Value) (a1 a2 a3 a4 a5 a6 g1 g2 g3 g4 g5 g6 : Nat) (T : List Pr) (m o : Ms) (Htb : ∀ wr, Bx12 w a1 a2 a3 a4 a5 a6 g1 g2 g3 g4 g5 g6 wr → Calls Tryz.prog 39 #[v0, .int .i64 12] wr (MOut wr T)) (Hm1 : ∀ wr, Calls Tryz.prog 29 #[.agg #[.int .u8 a1, .int .u8 a2, .int .u8 a3, .int .u8 a4, .int .u8 a5, .int .u8 a6]] wr fun e w' => e = .returned (msgV m) ∧ Below wr.heap.size wr w') (Hm2 : ∀ wr, Calls Tryz.prog 29 #[.agg #[.int .u8 g1, .int .u8 g2, .int .u8 g3, .int .u8 g4, .int .u8 g5, .int .u8 g6]] wr fun e w' => e = .returned (msgV o) ∧ Below wr.heap.size wr w') (s1 s2 s9 s10 s11 s12 s21 s22 s23 s24 s25 s26 s27 s28 s29 s30 s31 s32 s33 s34 s35 s36 s37 s38 s39 s40 s41 s42 s43 s44 s45 s46 s47 s48 s49 s50 s51 s52 s53 s54 s55 s56 s57 s58 s59 s60 s61 s62 s63 s64 s65 s66 s67 s68 s69 s70 s71 s72 s73 s74 : Value) (Q : Exit → Act → World → Prop) (hQ : ∀ (u13 u14 u15 u16 u17 u18 u19 u20 : Value) (p : Option Addr) (c : Nat) (b7 b8 : Nat) (wx : World), Lw w [(.slice p T.length c, T)] [(b8, o), (b7, m)] [] wx → Q .normal ⟨#[v0, s1, s2, .pointer (some ⟨w.heap.size, 0, none⟩), .bool false, .bool true, .slice p T.length c, .pointer (some ⟨b7, 0, none⟩), .pointer (some ⟨b8, 0, none⟩), s9, s10, s11, s12, u13, u14, u15, u16, u17, u18, u19, u20, s21, s22, s23, s24, s25, s26, s27, s28, s29, s30, s31, s32, s33, s34, s35, s36, s37, s38, s39, s40, s41, s42, s43, s44, s45, s46, s47, s48, s49, s50, s51, s52, s53, s54, s55, s56, s57, s58, s59, s60, s61, s62, s63, s64, s65, s66, s67, s68, s69, s70, s71, s72, s73, s74], []⟩ wx)
    (s6 s7 s14 s17 s20 : Value) (wx : World) (hHeld : Bx12 w a1 a2 a3 a4 a5 a6 g1 g2 g3 g4 g5 g6 wx) (b8 : Nat) (hz1 : Blk wx b8 47 #[.int .i64 0, .string ⟨#[]⟩, .string ⟨#[]⟩, .string ⟨#[]⟩, .string ⟨#[]⟩, .string ⟨#[]⟩, .string ⟨#[]⟩, .int .i64 0]) (hl1 : w.heap.size < b8) :
    wpAnyH Tryz.prog .any (codeOps tw2R) (NoPanic Q) (fun wr => Bx12 w a1 a2 a3 a4 a5 a6 g1 g2 g3 g4 g5 g6 wr) 7 #[true, false, true, true, false, true, true, false, false, true, false, false, false] ⟨#[v0, s1, s2, .pointer (some ⟨w.heap.size, 0, none⟩), .bool false, .bool true, s6, s7, .pointer (some ⟨b8, 0, none⟩), s9, s10, s11, s12, v0, s14, .pointer (some ⟨w.heap.size, 0, none⟩), .agg #[.int .u8 a1, .int .u8 a2, .int .u8 a3, .int .u8 a4, .int .u8 a5, .int .u8 a6], s17, .pointer (some ⟨w.heap.size, 6, none⟩), .agg #[.int .u8 g1, .int .u8 g2, .int .u8 g3, .int .u8 g4, .int .u8 g5, .int .u8 g6], s20, s21, s22, s23, s24, s25, s26, s27, s28, s29, s30, s31, s32, s33, s34, s35, s36, s37, s38, s39, s40, s41, s42, s43, s44, s45, s46, s47, s48, s49, s50, s51, s52, s53, s54, s55, s56, s57, s58, s59, s60, s61, s62, s63, s64, s65, s66, s67, s68, s69, s70, s71, s72, s73, s74], []⟩ wx := by
  have HN0 := Lib.hid (tw2_1_1 w v0 a1 a2 a3 a4 a5 a6 g1 g2 g3 g4 g5 g6 T m o Htb Hm1 Hm2 s1 s2 s9 s10 s11 s12 s21 s22 s23 s24 s25 s26 s27 s28 s29 s30 s31 s32 s33 s34 s35 s36 s37 s38 s39 s40 s41 s42 s43 s44 s45 s46 s47 s48 s49 s50 s51 s52 s53 s54 s55 s56 s57 s58 s59 s60 s61 s62 s63 s64 s65 s66 s67 s68 s69 s70 s71 s72 s73 s74 Q hQ)
  have HN1 := Lib.hid (tw2_0_01 w v0 a1 a2 a3 a4 a5 a6 g1 g2 g3 g4 g5 g6 T m o Htb Hm1 Hm2 s1 s2 s9 s10 s11 s12 s21 s22 s23 s24 s25 s26 s27 s28 s29 s30 s31 s32 s33 s34 s35 s36 s37 s38 s39 s40 s41 s42 s43 s44 s45 s46 s47 s48 s49 s50 s51 s52 s53 s54 s55 s56 s57 s58 s59 s60 s61 s62 s63 s64 s65 s66 s67 s68 s69 s70 s71 s72 s73 s74 Q hQ)
  clear hQ
  have hltw := hHeld.b.lt
  conv => arg 3; arg 1; whnf
  dsimp only [codeOps]
  refine wpAnyH_ready (rs := [1, 8]) (by kernel_rfl) (by simp) ?_
  refine AllReadyH.cons (o := _) rfl (fun K hK => ?_) (AllReadyH.cons (o := _) rfl (fun K hK => ?_) AllReadyH.nil)
  · go_simp
    (go_at_call 39; (with_reducible refine (Htb _ hHeld).mono ?_); rintro e x2 ⟨p, c, rfl, hp, ho, hb⟩)
    refine hK.out _ _ (by (first | with_reducible assumption | with_reducible exact Bx12.below (by with_reducible assumption) (by with_reducible assumption) | with_reducible exact Bx12.alloc (by with_reducible assumption) _)) (fun hHeld => ?_)
    clear hK K
    try simp only [List.setIfInBounds_toArray, List.set_cons_zero, List.set_cons_succ]
    exact wpAnyH_listed (by kernel_rfl) (HN0.out _ _ _ _ _ (by with_reducible assumption) p c hp _ (hz1.below hb hz1.lt) hl1 (ho _ hz1.lt))
  · go_simp
    refine hK.out _ _ (by (first | with_reducible assumption | with_reducible exact Bx12.below (by with_reducible assumption) (by with_reducible assumption) | with_reducible exact Bx12.alloc (by with_reducible assumption) _)) (fun hHeld => ?_)
    clear hK K
    try simp only [List.setIfInBounds_toArray, List.set_cons_zero, List.set_cons_succ]
    exact wpAnyH_listed (by kernel_rfl) (HN1.out _ _ _ _ _ (by with_reducible assumption) _ (Blk.new _ _ _) hltw _ (hz1.alloc _) hl1 (Nat.ne_of_gt hz1.lt))
set_option maxRecDepth 1000000 in
set_option maxHeartbeats 8000000 in
theorem tw2_0_0 (w : World) (v0 : Value) (a1 a2 a3 a4 a5 a6 g1 g2 g3 g4 g5 g6 : Nat) (T : List Pr) (m o : Ms) (Htb : ∀ wr, Bx12 w a1 a2 a3 a4 a5 a6 g1 g2 g3 g4 g5 g6 wr → Calls Tryz.prog 39 #[v0, .int .i64 12] wr (MOut wr T)) (Hm1 : ∀ wr, Calls Tryz.prog 29 #[.agg #[.int .u8 a1, .int .u8 a2, .int .u8 a3, .int .u8 a4, .int .u8 a5, .int .u8 a6]] wr fun e w' => e = .returned (msgV m) ∧ Below wr.heap.size wr w') (Hm2 : ∀ wr, Calls Tryz.prog 29 #[.agg #[.int .u8 g1, .int .u8 g2, .int .u8 g3, .int .u8 g4, .int .u8 g5, .int .u8 g6]] wr fun e w' => e = .returned (msgV o) ∧ Below wr.heap.size wr w') (s1 s2 s9 s10 s11 s12 s21 s22 s23 s24 s25 s26 s27 s28 s29 s30 s31 s32 s33 s34 s35 s36 s37 s38 s39 s40 s41 s42 s43 s44 s45 s46 s47 s48 s49 s50 s51 s52 s53 s54 s55 s56 s57 s58 s59 s60 s61 s62 s63 s64 s65 s66 s67 s68 s69 s70 s71 s72 s73 s74 : Value) (Q : Exit → Act → World → Prop) (hQ : ∀ (u13 u14 u15 u16 u17 u18 u19 u20 : Value) (p : Option Addr) (c : Nat) (b7 b8 : Nat) (wx : World), Lw w [(.slice p T.length c, T)] [(b8, o), (b7, m)] [] wx → Q .normal ⟨#[v0, s1, s2, .pointer (some ⟨w.heap.size, 0, none⟩), .bool false, .bool true, .slice p T.length c, .pointer (some ⟨b7, 0, none⟩), .pointer (some ⟨b8, 0, none⟩), s9, s10, s11, s12, u13, u14, u15, u16, u17, u18, u19, u20, s21, s22, s23, s24, s25, s26, s27, s28, s29, s30, s31, s32, s33, s34, s35, s36, s37, s38, s39, s40, s41, s42, s43, s44, s45, s46, s47, s48, s49, s50, s51, s52, s53, s54, s55, s56, s57, s58, s59, s60, s61, s62, s63, s64, s65, s66, s67, s68, s69, s70, s71, s72, s73, s74], []⟩ wx)
    (s6 s8 s14 s17 s20 : Value) (wx : World) (hHeld : Bx12 w a1 a2 a3 a4 a5 a6 g1 g2 g3 g4 g5 g6 wx) (b7 : Nat) (hz0 : Blk wx b7 47 #[.int .i64 0, .string ⟨#[]⟩, .string ⟨#[]⟩, .string ⟨#[]⟩, .string ⟨#[]⟩, .string ⟨#[]⟩, .string ⟨#[]⟩, .int .i64 0]) (hl0 : w.heap.size < b7) :
    wpAnyH Tryz.prog .any (codeOps tw2R) (NoPanic Q) (fun wr => Bx12 w a1 a2 a3 a4 a5 a6 g1 g2 g3 g4 g5 g6 wr) 7 #[true, false, true, true, false, true, true, false, true, false, false, false, false] ⟨#[v0, s1, s2, .pointer (some ⟨w.heap.size, 0, none⟩), .bool false, .bool true, s6, .pointer (some ⟨b7, 0, none⟩), s8, s9, s10, s11, s12, v0, s14, .pointer (some ⟨w.heap.size, 0, none⟩), .agg #[.int .u8 a1, .int .u8 a2, .int .u8 a3, .int .u8 a4, .int .u8 a5, .int .u8 a6], s17, .pointer (some ⟨w.heap.size, 6, none⟩), .agg #[.int .u8 g1, .int .u8 g2, .int .u8 g3, .int .u8 g4, .int .u8 g5, .int .u8 g6], s20, s21, s22, s23, s24, s25, s26, s27, s28, s29, s30, s31, s32, s33, s34, s35, s36, s37, s38, s39, s40, s41, s42, s43, s44, s45, s46, s47, s48, s49, s50, s51, s52, s53, s54, s55, s56, s57, s58, s59, s60, s61, s62, s63, s64, s65, s66, s67, s68, s69, s70, s71, s72, s73, s74], []⟩ wx := by
  have HN0 := Lib.hid (tw2_1_0 w v0 a1 a2 a3 a4 a5 a6 g1 g2 g3 g4 g5 g6 T m o Htb Hm1 Hm2 s1 s2 s9 s10 s11 s12 s21 s22 s23 s24 s25 s26 s27 s28 s29 s30 s31 s32 s33 s34 s35 s36 s37 s38 s39 s40 s41 s42 s43 s44 s45 s46 s47 s48 s49 s50 s51 s52 s53 s54 s55 s56 s57 s58 s59 s60 s61 s62 s63 s64 s65 s66 s67 s68 s69 s70 s71 s72 s73 s74 Q hQ)
  have HN1 := Lib.hid (tw2_0_01 w v0 a1 a2 a3 a4 a5 a6 g1 g2 g3 g4 g5 g6 T m o Htb Hm1 Hm2 s1 s2 s9 s10 s11 s12 s21 s22 s23 s24 s25 s26 s27 s28 s29 s30 s31 s32 s33 s34 s35 s36 s37 s38 s39 s40 s41 s42 s43 s44 s45 s46 s47 s48 s49 s50 s51 s52 s53 s54 s55 s56 s57 s58 s59 s60 s61 s62 s63 s64 s65 s66 s67 s68 s69 s70 s71 s72 s73 s74 Q hQ)
  clear hQ
  have hltw := hHeld.b.lt
  conv => arg 3; arg 1; whnf
  dsimp only [codeOps]
  refine wpAnyH_ready (rs := [1, 9]) (by kernel_rfl) (by simp) ?_
  refine AllReadyH.cons (o := _) rfl (fun K hK => ?_) (AllReadyH.cons (o := _) rfl (fun K hK => ?_) AllReadyH.nil)
  · go_simp
    (go_at_call 39; (with_reducible refine (Htb _ hHeld).mono ?_); rintro e x2 ⟨p, c, rfl, hp, ho, hb⟩)
    refine hK.out _ _ (by (first | with_reducible assumption | with_reducible exact Bx12.below (by with_reducible assumption) (by with_reducible assumption) | with_reducible exact Bx12.alloc (by with_reducible assumption) _)) (fun hHeld => ?_)
    clear hK K
    try simp only [List.setIfInBounds_toArray, List.set_cons_zero, List.set_cons_succ]
    exact wpAnyH_listed (by kernel_rfl) (HN0.out _ _ _ _ _ (by with_reducible assumption) p c hp _ (hz0.below hb hz0.lt) hl0 (ho _ hz0.lt))
  · go_simp
    refine hK.out _ _ (by (first | with_reducible assumption | with_reducible exact Bx12.below (by with_reducible assumption) (by with_reducible assumption) | with_reducible exact Bx12.alloc (by with_reducible assumption) _)) (fun hHeld => ?_)
    clear hK K
    try simp only [List.setIfInBounds_toArray, List.set_cons_zero, List.set_cons_succ]
    exact wpAnyH_listed (by kernel_rfl) (HN1.out _ _ _ _ _ (by with_reducible assumption) _ (hz0.alloc _) hl0 _ (Blk.new _ _ _) hltw (Nat.ne_of_lt hz0.lt))
set_option maxRecDepth 1000000 in
set_option maxHeartbeats 8000000 in
theorem tw2_0_n (w : World) (v0 : Value) (a1 a2 a3 a4 a5 a6 g1 g2 g3 g4 g5 g6 : Nat) (T : List Pr) (m o : Ms) (Htb : ∀ wr, Bx12 w a1 a2 a3 a4 a5 a6 g1 g2 g3 g4 g5 g6 wr → Calls Tryz.prog 39 #[v0, .int .i64 12] wr (MOut wr T)) (Hm1 : ∀ wr, Calls Tryz.prog 29 #[.agg #[.int .u8 a1, .int .u8 a2, .int .u8 a3, .int .u8 a4, .int .u8 a5, .int .u8 a6]] wr fun e w' => e = .returned (msgV m) ∧ Below wr.heap.size wr w') (Hm2 : ∀ wr, Calls Tryz.prog 29 #[.agg #[.int .u8 g1, .int .u8 g2, .int .u8 g3, .int .u8 g4, .int .u8 g5, .int .u8 g6]] wr fun e w' => e = .returned (msgV o) ∧ Below wr.heap.size wr w') (s1 s2 s9 s10 s11 s12 s21 s22 s23 s24 s25 s26 s27 s28 s29 s30 s31 s32 s33 s34 s35 s36 s37 s38 s39 s40 s41 s42 s43 s44 s45 s46 s47 s48 s49 s50 s51 s52 s53 s54 s55 s56 s57 s58 s59 s60 s61 s62 s63 s64 s65 s66 s67 s68 s69 s70 s71 s72 s73 s74 : Value) (Q : Exit → Act → World → Prop) (hQ : ∀ (u13 u14 u15 u16 u17 u18 u19 u20 : Value) (p : Option Addr) (c : Nat) (b7 b8 : Nat) (wx : World), Lw w [(.slice p T.length c, T)] [(b8, o), (b7, m)] [] wx → Q .normal ⟨#[v0, s1, s2, .pointer (some ⟨w.heap.size, 0, none⟩), .bool false, .bool true, .slice p T.length c, .pointer (some ⟨b7, 0, none⟩), .pointer (some ⟨b8, 0, none⟩), s9, s10, s11, s12, u13, u14, u15, u16, u17, u18, u19, u20, s21, s22, s23, s24, s25, s26, s27, s28, s29, s30, s31, s32, s33, s34, s35, s36, s37, s38, s39, s40, s41, s42, s43, s44, s45, s46, s47, s48, s49, s50, s51, s52, s53, s54, s55, s56, s57, s58, s59, s60, s61, s62, s63, s64, s65, s66, s67, s68, s69, s70, s71, s72, s73, s74], []⟩ wx)
    (s6 s7 s8 s14 s17 s20 : Value) (wx : World) (hHeld : Bx12 w a1 a2 a3 a4 a5 a6 g1 g2 g3 g4 g5 g6 wx)  :
    wpAnyH Tryz.prog .any (codeOps tw2R) (NoPanic Q) (fun wr => Bx12 w a1 a2 a3 a4 a5 a6 g1 g2 g3 g4 g5 g6 wr) 8 #[true, false, true, true, false, true, true, false, false, false, false, false, false] ⟨#[v0, s1, s2, .pointer (some ⟨w.heap.size, 0, none⟩), .bool false, .bool true, s6, s7, s8, s9, s10, s11, s12, v0, s14, .pointer (some ⟨w.heap.size, 0, none⟩), .agg #[.int .u8 a1, .int .u8 a2, .int .u8 a3, .int .u8 a4, .int .u8 a5, .int .u8 a6], s17, .pointer (some ⟨w.heap.size, 6, none⟩), .agg #[.int .u8 g1, .int .u8 g2, .int .u8 g3, .int .u8 g4, .int .u8 g5, .int .u8 g6], s20, s21, s22, s23, s24, s25, s26, s27, s28, s29, s30, s31, s32, s33, s34, s35, s36, s37, s38, s39, s40, s41, s42, s43, s44, s45, s46, s47, s48, s49, s50, s51, s52, s53, s54, s55, s56, s57, s58, s59, s60, s61, s62, s63, s64, s65, s66, s67, s68, s69, s70, s71, s72, s73, s74], []⟩ wx := by
  have HN0 := Lib.hid (tw2_1_n w v0 a1 a2 a3 a4 a5 a6 g1 g2 g3 g4 g5 g6 T m o Htb Hm1 Hm2 s1 s2 s9 s10 s11 s12 s21 s22 s23 s24 s25 s26 s27 s28 s29 s30 s31 s32 s33 s34 s35 s36 s37 s38 s39 s40 s41 s42 s43 s44 s45 s46 s47 s48 s49 s50 s51 s52 s53 s54 s55 s56 s57 s58 s59 s60 s61 s62 s63 s64 s65 s66 s67 s68 s69 s70 s71 s72 s73 s74 Q hQ)
  have HN1 := Lib.hid (tw2_0_0 w v0 a1 a2 a3 a4 a5 a6 g1 g2 g3 g4 g5 g6 T m o Htb Hm1 Hm2 s1 s2 s9 s10 s11 s12 s21 s22 s23 s24 s25 s26 s27 s28 s29 s30 s31 s32 s33 s34 s35 s36 s37 s38 s39 s40 s41 s42 s43 s44 s45 s46 s47 s48 s49 s50 s51 s52 s53 s54 s55 s56 s57 s58 s59 s60 s61 s62 s63 s64 s65 s66 s67 s68 s69 s70 s71 s72 s73 s74 Q hQ)
  have HN2 := Lib.hid (tw2_0_1 w v0 a1 a2 a3 a4 a5 a6 g1 g2 g3 g4 g5 g6 T m o Htb Hm1 Hm2 s1 s2 s9 s10 s11 s12 s21 s22 s23 s24 s25 s26 s27 s28 s29 s30 s31 s32 s33 s34 s35 s36 s37 s38 s39 s40 s41 s42 s43 s44 s45 s46 s47 s48 s49 s50 s51 s52 s53 s54 s55 s56 s57 s58 s59 s60 s61 s62 s63 s64 s65 s66 s67 s68 s69 s70 s71 s72 s73 s74 Q hQ)
  clear hQ
  have hltw := hHeld.b.lt
  conv => arg 3; arg 1; whnf
  dsimp only [codeOps]
  refine wpAnyH_ready (rs := [1, 8, 9]) (by kernel_rfl) (by simp) ?_
  refine AllReadyH.cons (o := _) rfl (fun K hK => ?_) (AllReadyH.cons (o := _) rfl (fun K hK => ?_) (AllReadyH.cons (o := _) rfl (fun K hK => ?_) AllReadyH.nil))
  · go_simp
    (go_at_call 39; (with_reducible refine (Htb _ hHeld).mono ?_); rintro e x2 ⟨p, c, rfl, hp, ho, hb⟩)
    refine hK.out _ _ (by (first | with_reducible assumption | with_reducible exact Bx12.below (by with_reducible assumption) (by with_reducible assumption) | with_reducible exact Bx12.alloc (by with_reducible assumption) _)) (fun hHeld => ?_)
    clear hK K
    try simp only [List.setIfInBounds_toArray, List.set_cons_zero, List.set_cons_succ]
    exact wpAnyH_listed (by kernel_rfl) (HN0.out _ _ _ _ _ _ (by with_reducible assumption) p c hp)
  · go_simp
    refine hK.out _ _ (by (first | with_reducible assumption | with_reducible exact Bx12.below (by with_reducible assumption) (by with_reducible assumption) | with_reducible exact Bx12.alloc (by with_reducible assumption) _)) (fun hHeld => ?_)
    clear hK K
    try simp only [List.setIfInBounds_toArray, List.set_cons_zero, List.set_cons_succ]
    exact wpAnyH_listed (by kernel_rfl) (HN1.out _ _ _ _ _ _ (by with_reducible assumption) _ (Blk.new _ _ _) hltw)
  · go_simp
    refine hK.out _ _ (by (first | with_reducible assumption | with_reducible exact Bx12.below (by with_reducible assumption) (by with_reducible assumption) | with_reducible exact Bx12.alloc (by with_reducible assumption) _)) (fun hHeld => ?_)
    clear hK K
    try simp only [List.setIfInBounds_toArray, List.set_cons_zero, List.set_cons_succ]
    exact wpAnyH_listed (by kernel_rfl) (HN2.out _ _ _ _ _ _ (by with_reducible assumption) _ (Blk.new _ _ _) hltw)
set_option maxRecDepth 1000000 in
set_option maxHeartbeats 8000000 in
theorem tw2_s (w : World) (v0 : Value) (a1 a2 a3 a4 a5 a6 g1 g2 g3 g4 g5 g6 : Nat) (T : List Pr) (m o : Ms) (Htb : ∀ wr, Bx12 w a1 a2 a3 a4 a5 a6 g1 g2 g3 g4 g5 g6 wr → Calls Tryz.prog 39 #[v0, .int .i64 12] wr (MOut wr T)) (Hm1 : ∀ wr, Calls Tryz.prog 29 #[.agg #[.int .u8 a1, .int .u8 a2, .int .u8 a3, .int .u8 a4, .int .u8 a5, .int .u8 a6]] wr fun e w' => e = .returned (msgV m) ∧ Below wr.heap.size wr w') (Hm2 : ∀ wr, Calls Tryz.prog 29 #[.agg #[.int .u8 g1, .int .u8 g2, .int .u8 g3, .int .u8 g4, .int .u8 g5, .int .u8 g6]] wr fun e w' => e = .returned (msgV o) ∧ Below wr.heap.size wr w') (s1 s2 s9 s10 s11 s12 s21 s22 s23 s24 s25 s26 s27 s28 s29 s30 s31 s32 s33 s34 s35 s36 s37 s38 s39 s40 s41 s42 s43 s44 s45 s46 s47 s48 s49 s50 s51 s52 s53 s54 s55 s56 s57 s58 s59 s60 s61 s62 s63 s64 s65 s66 s67 s68 s69 s70 s71 s72 s73 s74 : Value) (Q : Exit → Act → World → Prop) (hQ : ∀ (u13 u14 u15 u16 u17 u18 u19 u20 : Value) (p : Option Addr) (c : Nat) (b7 b8 : Nat) (wx : World), Lw w [(.slice p T.length c, T)] [(b8, o), (b7, m)] [] wx → Q .normal ⟨#[v0, s1, s2, .pointer (some ⟨w.heap.size, 0, none⟩), .bool false, .bool true, .slice p T.length c, .pointer (some ⟨b7, 0, none⟩), .pointer (some ⟨b8, 0, none⟩), s9, s10, s11, s12, u13, u14, u15, u16, u17, u18, u19, u20, s21, s22, s23, s24, s25, s26, s27, s28, s29, s30, s31, s32, s33, s34, s35, s36, s37, s38, s39, s40, s41, s42, s43, s44, s45, s46, s47, s48, s49, s50, s51, s52, s53, s54, s55, s56, s57, s58, s59, s60, s61, s62, s63, s64, s65, s66, s67, s68, s69, s70, s71, s72, s73, s74], []⟩ wx)
    (s6 s7 s8 s13 s14 s15 s16 s17 s18 s19 s20 : Value) (wx : World) (hHeld : Bx12 w a1 a2 a3 a4 a5 a6 g1 g2 g3 g4 g5 g6 wx)  :
    wpAnyH Tryz.prog .any (codeOps tw2R) (NoPanic Q) (fun wr => Bx12 w a1 a2 a3 a4 a5 a6 g1 g2 g3 g4 g5 g6 wr) 13 #[false, false, false, false, false, false, false, false, false, false, false, false, false] ⟨#[v0, s1, s2, .pointer (some ⟨w.heap.size, 0, none⟩), .bool false, .bool true, s6, s7, s8, s9, s10, s11, s12, s13, s14, s15, s16, s17, s18, s19, s20, s21, s22, s23, s24, s25, s26, s27, s28, s29, s30, s31, s32, s33, s34, s35, s36, s37, s38, s39, s40, s41, s42, s43, s44, s45, s46, s47, s48, s49, s50, s51, s52, s53, s54, s55, s56, s57, s58, s59, s60, s61, s62, s63, s64, s65, s66, s67, s68, s69, s70, s71, s72, s73, s74], []⟩ wx := by
  have HN0 := Lib.hid (tw2_0_n w v0 a1 a2 a3 a4 a5 a6 g1 g2 g3 g4 g5 g6 T m o Htb Hm1 Hm2 s1 s2 s9 s10 s11 s12 s21 s22 s23 s24 s25 s26 s27 s28 s29 s30 s31 s32 s33 s34 s35 s36 s37 s38 s39 s40 s41 s42 s43 s44 s45 s46 s47 s48 s49 s50 s51 s52 s53 s54 s55 s56 s57 s58 s59 s60 s61 s62 s63 s64 s65 s66 s67 s68 s69 s70 s71 s72 s73 s74 Q hQ)
  clear hQ
  conv => arg 3; arg 1; whnf
  dsimp only [codeOps]
  have q0 : ∀ wr, Bx12 w a1 a2 a3 a4 a5 a6 g1 g2 g3 g4 g5 g6 wr → wr.cell? ⟨w.heap.size, 0, none⟩ = some (.int .u8 a1) := fun wr h => h.b.c0 0 _ rfl
  have q1 : ∀ wr, Bx12 w a1 a2 a3 a4 a5 a6 g1 g2 g3 g4 g5 g6 wr → wr.cell? ⟨w.heap.size, 1, none⟩ = some (.int .u8 a2) := fun wr h => h.b.c0 1 _ rfl
  have q2 : ∀ wr, Bx12 w a1 a2 a3 a4 a5 a6 g1 g2 g3 g4 g5 g6 wr → wr.cell? ⟨w.heap.size, 2, none⟩ = some (.int .u8 a3) := fun wr h => h.b.c0 2 _ rfl
  have q3 : ∀ wr, Bx12 w a1 a2 a3 a4 a5 a6 g1 g2 g3 g4 g5 g6 wr → wr.cell? ⟨w.heap.size, 3, none⟩ = some (.int .u8 a4) := fun wr h => h.b.c0 3 _ rfl
  have q4 : ∀ wr, Bx12 w a1 a2 a3 a4 a5 a6 g1 g2 g3 g4 g5 g6 wr → wr.cell? ⟨w.heap.size, 4, none⟩ = some (.int .u8 a5) := fun wr h => h.b.c0 4 _ rfl
  have q5 : ∀ wr, Bx12 w a1 a2 a3 a4 a5 a6 g1 g2 g3 g4 g5 g6 wr → wr.cell? ⟨w.heap.size, 5, none⟩ = some (.int .u8 a6) := fun wr h => h.b.c0 5 _ rfl
  have q6 : ∀ wr, Bx12 w a1 a2 a3 a4 a5 a6 g1 g2 g3 g4 g5 g6 wr → wr.cell? ⟨w.heap.size, 6, none⟩ = some (.int .u8 g1) := fun wr h => h.b.c0 6 _ rfl
  have q7 : ∀ wr, Bx12 w a1 a2 a3 a4 a5 a6 g1 g2 g3 g4 g5 g6 wr → wr.cell? ⟨w.heap.size, 7, none⟩ = some (.int .u8 g2) := fun wr h => h.b.c0 7 _ rfl
  have q8 : ∀ wr, Bx12 w a1 a2 a3 a4 a5 a6 g1 g2 g3 g4 g5 g6 wr → wr.cell? ⟨w.heap.size, 8, none⟩ = some (.int .u8 g3) := fun wr h => h.b.c0 8 _ rfl
  have q9 : ∀ wr, Bx12 w a1 a2 a3 a4 a5 a6 g1 g2 g3 g4 g5 g6 wr → wr.cell? ⟨w.heap.size, 9, none⟩ = some (.int .u8 g4) := fun wr h => h.b.c0 9 _ rfl
  have q10 : ∀ wr, Bx12 w a1 a2 a3 a4 a5 a6 g1 g2 g3 g4 g5 g6 wr → wr.cell? ⟨w.heap.size, 10, none⟩ = some (.int .u8 g5) := fun wr h => h.b.c0 10 _ rfl
  have q11 : ∀ wr, Bx12 w a1 a2 a3 a4 a5 a6 g1 g2 g3 g4 g5 g6 wr → wr.cell? ⟨w.heap.size, 11, none⟩ = some (.int .u8 g6) := fun wr h => h.b.c0 11 _ rfl
  refine wpAnyH_take (i := 0) (oi := _) (v := ?_) rfl (by kernel_rfl) (by kernel_rfl) (by kernel_rfl) (fun _ _ _ h => h) (Or.inl ⟨by rfl, ?_⟩) (by with_reducible assumption) ?_
  rotate_left
  · intro wt hSw
    go_simp
    all_goals with_reducible rfl
  try simp only [Act.put, List.setIfInBounds_toArray, List.set_cons_zero]
  refine wpAnyH_take (i := 2) (oi := _) (v := ?_) rfl (by kernel_rfl) (by kernel_rfl) (by kernel_rfl) (fun _ _ _ h => h) (Or.inl ⟨by rfl, ?_⟩) (by with_reducible assumption) ?_
  rotate_left
  · intro wt hSw
    go_simp
    all_goals with_reducible rfl
  try simp only [Act.put, List.setIfInBounds_toArray, List.set_cons_zero, List.set_cons_succ]
  refine wpAnyH_take (i := 3) (oi := _) (v := ?_) rfl (by kernel_rfl) (by kernel_rfl) (by kernel_rfl) (fun _ _ _ h => h) (Or.inl ⟨by rfl, ?_⟩) (by with_reducible assumption) ?_
  rotate_left
  · intro wt hSw
    go_simp
    all_goals with_reducible rfl
  try simp only [Act.put, List.setIfInBounds_toArray, List.set_cons_zero, List.set_cons_succ]
  refine wpAnyH_take (i := 5) (oi := _) (v := ?_) rfl (by kernel_rfl) (by kernel_rfl) (by kernel_rfl) (fun _ _ _ h => h) (Or.inl ⟨by rfl, ?_⟩) (by with_reducible assumption) ?_
  rotate_left
  · intro wt hSw
    go_simp
    all_goals with_reducible rfl
  try simp only [Act.put, List.setIfInBounds_toArray, List.set_cons_zero, List.set_cons_succ]
  refine wpAnyH_take (i := 6) (oi := _) (v := ?_) rfl (by kernel_rfl) (by kernel_rfl) (by kernel_rfl) (fun _ _ _ h => h) (Or.inl ⟨by rfl, ?_⟩) (by with_reducible assumption) ?_
  rotate_left
  · intro wt hSw
    go_simp
    all_goals with_reducible rfl
  try simp only [Act.put, List.setIfInBounds_toArray, List.set_cons_zero, List.set_cons_succ]
  exact wpAnyH_listed (by kernel_rfl) (HN0.out _ _ _ _ _ _ _ (by with_reducible assumption))
set_option maxRecDepth 1000000 in
set_option maxHeartbeats 8000000 in
theorem tw2_w (w : World) (v0 : Value) (a1 a2 a3 a4 a5 a6 g1 g2 g3 g4 g5 g6 : Nat) (T : List Pr) (m o : Ms) (Htb : ∀ wr, Bx12 w a1 a2 a3 a4 a5 a6 g1 g2 g3 g4 g5 g6 wr → Calls Tryz.prog 39 #[v0, .int .i64 12] wr (MOut wr T)) (Hm1 : ∀ wr, Calls Tryz.prog 29 #[.agg #[.int .u8 a1, .int .u8 a2, .int .u8 a3, .int .u8 a4, .int .u8 a5, .int .u8 a6]] wr fun e w' => e = .returned (msgV m) ∧ Below wr.heap.size wr w') (Hm2 : ∀ wr, Calls Tryz.prog 29 #[.agg #[.int .u8 g1, .int .u8 g2, .int .u8 g3, .int .u8 g4, .int .u8 g5, .int .u8 g6]] wr fun e w' => e = .returned (msgV o) ∧ Below wr.heap.size wr w') (wa : World) (hS : Bx12 w a1 a2 a3 a4 a5 a6 g1 g2 g3 g4 g5 g6 wa) (s1 s2 s6 s7 s8 s9 s10 s11 s12 s13 s14 s15 s16 s17 s18 s19 s20 s21 s22 s23 s24 s25 s26 s27 s28 s29 s30 s31 s32 s33 s34 s35 s36 s37 s38 s39 s40 s41 s42 s43 s44 s45 s46 s47 s48 s49 s50 s51 s52 s53 s54 s55 s56 s57 s58 s59 s60 s61 s62 s63 s64 s65 s66 s67 s68 s69 s70 s71 s72 s73 s74 : Value) (Q : Exit → Act → World → Prop)
    (hQ : ∀ (u13 u14 u15 u16 u17 u18 u19 u20 : Value) (p : Option Addr) (c : Nat) (b7 b8 : Nat) (wx : World), Lw w [(.slice p T.length c, T)] [(b8, o), (b7, m)] [] wx → Q .normal ⟨#[v0, s1, s2, .pointer (some ⟨w.heap.size, 0, none⟩), .bool false, .bool true, .slice p T.length c, .pointer (some ⟨b7, 0, none⟩), .pointer (some ⟨b8, 0, none⟩), s9, s10, s11, s12, u13, u14, u15, u16, u17, u18, u19, u20, s21, s22, s23, s24, s25, s26, s27, s28, s29, s30, s31, s32, s33, s34, s35, s36, s37, s38, s39, s40, s41, s42, s43, s44, s45, s46, s47, s48, s49, s50, s51, s52, s53, s54, s55, s56, s57, s58, s59, s60, s61, s62, s63, s64, s65, s66, s67, s68, s69, s70, s71, s72, s73, s74], []⟩ wx) :
    tw2R.wp Tryz.prog Q ⟨#[v0, s1, s2, .pointer (some ⟨w.heap.size, 0, none⟩), .bool false, .bool true, s6, s7, s8, s9, s10, s11, s12, s13, s14, s15, s16, s17, s18, s19, s20, s21, s22, s23, s24, s25, s26, s27, s28, s29, s30, s31, s32, s33, s34, s35, s36, s37, s38, s39, s40, s41, s42, s43, s44, s45, s46, s47, s48, s49, s50, s51, s52, s53, s54, s55, s56, s57, s58, s59, s60, s61, s62, s63, s64, s65, s66, s67, s68, s69, s70, s71, s72, s73, s74], []⟩ wa := by
  have h0 := tw2_s w v0 a1 a2 a3 a4 a5 a6 g1 g2 g3 g4 g5 g6 T m o Htb Hm1 Hm2 s1 s2 s9 s10 s11 s12 s21 s22 s23 s24 s25 s26 s27 s28 s29 s30 s31 s32 s33 s34 s35 s36 s37 s38 s39 s40 s41 s42 s43 s44 s45 s46 s47 s48 s49 s50 s51 s52 s53 s54 s55 s56 s57 s58 s59 s60 s61 s62 s63 s64 s65 s66 s67 s68 s69 s70 s71 s72 s73 s74 Q hQ
  conv => arg 2; whnf
  refine wp_region_noPanic ?_
  refine wp_region_held_drew (S := fun wr => Bx12 w a1 a2 a3 a4 a5 a6 g1 g2 g3 g4 g5 g6 wr) (by kernel_rfl) (hS.drew) (fun hHeld => ?_)
  exact wpAnyH_listed (by kernel_rfl) (h0 _ _ _ _ _ _ _ _ _ _ _ _ hHeld)

end Go.Proofs.YtaafckefeejjpaaGreat
namespace Go.Proofs.YtaafckefeejjpaaGreat
open Go.RowKit Go.Sort
set_option linter.unusedVariables false

theorem IsMsgs.alloc2 {w : World} {v : Value} {l : List Ms} (h : IsMsgs w v l) (o : Obj) : IsMsgs (w.alloc o) v l := h.below (below_box _)
theorem IsMsgs.drew2 {w : World} {v : Value} {l : List Ms} (h : IsMsgs w v l) : IsMsgs w.drew v l := h.below (below_drewN w 1)
theorem msgs_below2 {w w' : World} {v : Value} {l : List Ms} (hb : Below w.heap.size w w') (h : IsMsgs w v l) : IsMsgs w' v l := h.below hb
set_option maxRecDepth 1000000 in
set_option maxHeartbeats 8000000 in
theorem msgTwice_walk0 (hsan : SanityW) (w : World) (v0 : Value) (l : List Rw) (h0 : IsRaws w v0 l) (v1 : Value) (y : R6 × R6) (h1 : IsRaw6x2 w v1 y) :
    Calls Tryz.prog 12 #[v0, v1] w fun e w' => e = .returned (.bool true) ∧ Below w.heap.size w w' := by
  obtain ⟨⟨a1, a2, a3, a4, a5, a6⟩, g1, g2, g3, g4, g5, g6⟩ := y
  obtain ⟨rfl, hsm1, hsm2⟩ := h1
  change Small6 a1 a2 a3 a4 a5 a6 at hsm1
  change Small6 g1 g2 g3 g4 g5 g6 at hsm2
  show Calls _ _ #[v0, .agg #[.int .u8 a1, .int .u8 a2, .int .u8 a3, .int .u8 a4, .int .u8 a5, .int .u8 a6, .int .u8 g1, .int .u8 g2, .int .u8 g3, .int .u8 g4, .int .u8 g5, .int .u8 g6]] _ _
  have H0 := Lib.hid h0
  have Hsan := Lib.hid hsan
  have Hm1 : Hid (∀ wx, Calls Tryz.prog 29 #[.agg #[.int .u8 a1, .int .u8 a2, .int .u8 a3, .int .u8 a4, .int .u8 a5, .int .u8 a6]] wx fun e' w' => e' = .returned (msgV (madeM a1 a2 a3 a4 a5 a6)) ∧ Below wx.heap.size wx w') := Lib.hid (fun wx => made_w a1 a2 a3 a4 a5 a6 wx hsm1)
  have Hm2 : Hid (∀ wx, Calls Tryz.prog 29 #[.agg #[.int .u8 g1, .int .u8 g2, .int .u8 g3, .int .u8 g4, .int .u8 g5, .int .u8 g6]] wx fun e' w' => e' = .returned (msgV (madeM g1 g2 g3 g4 g5 g6)) ∧ Below wx.heap.size wx w') := Lib.hid (fun wx => made_w g1 g2 g3 g4 g5 g6 wx hsm2)
  have Htb : Hid (∀ wr, Bx12 w a1 a2 a3 a4 a5 a6 g1 g2 g3 g4 g5 g6 wr → Calls Tryz.prog 39 #[v0, .int .i64 12] wr (MOut wr (tableS l 12))) := Lib.hid (fun wr h => (table_w v0 l 12 wr (H0.out.below h.g) (by omega)).mono (fun _ _ hh => OwnOut.mout hh))
  have sT := Lib.hid (srt_table l 12)
  have nT := table_len l 12
  have HTs := Lib.hid (table_small (l := l) (n := 12))
  have Zm := Lib.hid (And.intro (made_size a1 a2 a3 a4 a5 a6) (made_few a1 a2 a3 a4 a5 a6))
  have Zo := Lib.hid (And.intro (made_size g1 g2 g3 g4 g5 g6) (made_few g1 g2 g3 g4 g5 g6))
  have Hap := Lib.hid (made_apart a1 a2 a3 a4 a5 a6)
  have Hpl : Hid ((madeM a1 a2 a3 a4 a5 a6).src.length ≤ 100000 ∧ (madeM a1 a2 a3 a4 a5 a6).dst.length ≤ 100000) := Lib.hid (by have := made_size a1 a2 a3 a4 a5 a6; exact ⟨this.2.2.2.2.1, this.2.2.2.2.2⟩)
  clear h0 hsan hsm1 hsm2
  generalize madeM a1 a2 a3 a4 a5 a6 = m at *
  generalize madeM g1 g2 g3 g4 g5 g6 = o at *
  generalize tableS l 12 = T at *
  go_enter Tryz.func12, Tryz.ntmps12
  go_wp2_with fail
  refine (Hsan.out _).mono ?_
  rintro e1 w1 ⟨rfl, hb1⟩
  have hs1 : Bx12 w a1 a2 a3 a4 a5 a6 g1 g2 g3 g4 g5 g6 w1 := ⟨(Blk.new _ _ _).below hb1 (by simp), (below_box _).trans (hb1.mono (by simp))⟩
  have HS1 := Lib.hid hs1
  clear hb1 hs1
  go_upto_region 2 with fail
  go_cut [6, 7, 8] (fun s6 s7 s8 wx => ∃ pt ct b7 b8, s6 = .slice pt T.length ct ∧ s7 = .pointer (some ⟨b7, 0, none⟩) ∧ s8 = .pointer (some ⟨b8, 0, none⟩) ∧ Hid (Lw w [(.slice pt T.length ct, T)] [(b8, o), (b7, m)] [] wx))
  case first =>
    refine tw2_w w v0 a1 a2 a3 a4 a5 a6 g1 g2 g3 g4 g5 g6 T m o Htb.out Hm1.out Hm2.out w1 HS1.out _ _ _ _ _ _ _ _ _ _ _ _ _ _ _ _ _ _ _ _ _ _ _ _ _ _ _ _ _ _ _ _ _ _ _ _ _ _ _ _ _ _ _ _ _ _ _ _ _ _ _ _ _ _ _ _ _ _ _ _ _ _ _ _ _ _ _ _ _ _ _ _ (fun u13 u14 u15 u16 u17 u18 u19 u20 pt ct b7 b8 wx hL => ?_)
    have HL := Lib.hid hL
    clear hL
    go_wp2_with fail
    go_meet
    exact ⟨pt, ct, b7, b8, rfl, rfl, rfl, HL⟩
  case rest =>
    obtain ⟨pt, ct, b7, b8, rfl, rfl, rfl, HL⟩ := hcut
    clear HS1 Htb Hm1 Hm2
    obtain ⟨L, hL⟩ : ∃ L : List (Value × List Pr), L = [(.slice pt T.length ct, T)] := ⟨_, rfl⟩
    obtain ⟨B, hB⟩ : ∃ B : List (Nat × Ms), B = [(b8, o), (b7, m)] := ⟨_, rfl⟩
    rw [← hL, ← hB] at HL
    have HB := Lib.hid hB
    have HLL := Lib.hid hL
    clear hB hL
    have kT : Hid (∀ x ∈ T, x.1.length ≤ 100000) := Lib.hid (fun x hx => by have := (HTs.out x hx).1; omega)
    have kT2 : ∀ x ∈ T, x.1.length ≤ 100 := fun x hx => by have := (HTs.out x hx).1; omega
    have K1 : Hid (OkAll [m, m] T) := Lib.hid (okAll_few _ sT.out nT kT2 (by simp; exact Zm.out.2) (by simp))
    have K2 : Hid (OkAll [m, o] T) := Lib.hid (okAll_few _ sT.out nT kT2 (by simp; exact ⟨Zm.out.2, Zo.out.2⟩) (by simp))
    clear kT2
    have Ha0 : Hid (∀ wr, Lw w L B [] wr → Calls Tryz.prog 47 #[.slice pt T.length ct, msgV m] wr (LwOut w L B [] wr (applyS m T))) := Lib.hid (fun wr h => lw_apply h m T (h.at (by simp [HLL.out])) sT.out (by omega) kT.out Zm.out.1)
    have Ha1 : Hid (∀ wr u, Lw w L B [] wr → IsMsgs wr u [m, m] → Calls Tryz.prog 26 #[.slice pt T.length ct, u] wr (LwOut w L B [] wr (allS [m, m] T))) := Lib.hid (fun wr u h hu => lw_all h T [m, m] (h.at (by simp [HLL.out])) hu sT.out (by simp; exact Zm.out.1) K1.out)
    have E1 : Hid (m.kind = 4 → allS [m, m] T = withoutS [preS m.src, preS m.dst] T) := Lib.hid (fun h => move_two sT.out h (Hap.out (.inl h)))
    have E2 : Hid (m.kind ≠ 4 → allS [m, m] T = applyS m T) := Lib.hid (fun h => apply_twice sT.out h (fun h5 => Hap.out (.inr h5)))
    clear K1
    generalize hO1 : applyS m T = O1 at *
    generalize hO2 : allS [m, m] T = O2 at *
    clear hO1 hO2
    go_upto_region 3 with fail
    go_cut [9, 10] (fun s9 s10 wx => ∃ p1 c1 p2 c2, s9 = .slice p1 O1.length c1 ∧ s10 = .slice p2 O2.length c2 ∧ Hid (Lw w ((.slice p2 O2.length c2, O2) :: (.slice p1 O1.length c1, O1) :: L) B [] wx))
    case first =>
      have qm0 : ∀ wr, Lw w L B [] wr → wr.cell? ⟨b7, 0, none⟩ = some (.int .i64 m.kind) := fun wr h => (h.msg (n := b7) (m := m) (by simp [HB.out])).c0 0 _ rfl
      have qm1 : ∀ wr, Lw w L B [] wr → wr.cell? ⟨b7, 1, none⟩ = some (.string (Str m.key)) := fun wr h => (h.msg (n := b7) (m := m) (by simp [HB.out])).c0 1 _ rfl
      have qm2 : ∀ wr, Lw w L B [] wr → wr.cell? ⟨b7, 2, none⟩ = some (.string (Str m.val)) := fun wr h => (h.msg (n := b7) (m := m) (by simp [HB.out])).c0 2 _ rfl
      have qm3 : ∀ wr, Lw w L B [] wr → wr.cell? ⟨b7, 3, none⟩ = some (.string (Str m.lo)) := fun wr h => (h.msg (n := b7) (m := m) (by simp [HB.out])).c0 3 _ rfl
      have qm4 : ∀ wr, Lw w L B [] wr → wr.cell? ⟨b7, 4, none⟩ = some (.string (Str m.hi)) := fun wr h => (h.msg (n := b7) (m := m) (by simp [HB.out])).c0 4 _ rfl
      have qm5 : ∀ wr, Lw w L B [] wr → wr.cell? ⟨b7, 5, none⟩ = some (.string (Str m.src)) := fun wr h => (h.msg (n := b7) (m := m) (by simp [HB.out])).c0 5 _ rfl
      have qm6 : ∀ wr, Lw w L B [] wr → wr.cell? ⟨b7, 6, none⟩ = some (.string (Str m.dst)) := fun wr h => (h.msg (n := b7) (m := m) (by simp [HB.out])).c0 6 _ rfl
      have qm7 : ∀ wr, Lw w L B [] wr → wr.cell? ⟨b7, 7, none⟩ = some (.int .i64 m.n) := fun wr h => (h.msg (n := b7) (m := m) (by simp [HB.out])).c0 7 _ rfl
      go_region_held3 (fun wr => Lw w L B [] wr) (first | with_reducible assumption | with_reducible exact HL.out.drew | with_reducible exact (HL.out.alloc _).drew | with_reducible exact Lw.alloc (by with_reducible assumption) _ | with_reducible exact Lw.below (by with_reducible assumption) (by with_reducible assumption))
          (first
            | (go_at_call 47; (with_reducible refine (Ha0.out _ (by with_reducible assumption)).mono ?_); rintro e2 x2 ⟨p2, c2, rfl, hp2, hb2, hL2⟩; (first | (with_reducible have hm2 := msgs_below2 hb2 (new_msgs2 wc m m rfl).drew2) | (with_reducible have hm2 := msgs_below2 hb2 (new_msgs2 _ m m rfl)) | (with_reducible have hm2 := msgs_below2 hb2 (IsMsgs.alloc2 (new_msgs2 _ m m rfl) _)) | skip))
            | (go_at_call 26; (with_reducible refine (Ha1.out _ _ (by with_reducible assumption) (by first | with_reducible assumption | with_reducible exact (new_msgs2 wc m m rfl).drew2 | with_reducible exact new_msgs2 _ m m (by simp) | with_reducible exact IsMsgs.alloc2 (new_msgs2 _ m m (by simp)) _)).mono ?_); rintro e3 x3 ⟨p3, c3, rfl, hp3, hb3, hL3⟩)
            | fail "no arm")
      all_goals
        have H3 : Hid (Lw w ((.slice p3 O2.length c3, O2) :: (.slice p2 O1.length c2, O1) :: L) B [] x3) := Lib.hid ((hL3.add (by first | exact pairs_below hb3 hp2 | exact pairs_below hb3 (hp2.alloc _))).add hp3)
        clear hL2 hL3 hp2 hp3 hb2 hb3 qm0 qm1 qm2 qm3 qm4 qm5 qm6 qm7
        go_wp2_with fail
        go_meet
        exact ⟨p2, c2, p3, c3, rfl, rfl, H3⟩
    case rest =>
      obtain ⟨p1, c1, p2, c2, rfl, rfl, HL2⟩ := hcut
      clear Ha0 Ha1 HL
      obtain ⟨L2, hL2⟩ : ∃ L2 : List (Value × List Pr), L2 = (.slice p2 O2.length c2, O2) :: (.slice p1 O1.length c1, O1) :: L := ⟨_, rfl⟩
      rw [← hL2] at HL2
      have HLL2 : Hid (L2 = [(.slice p2 O2.length c2, O2), (.slice p1 O1.length c1, O1), (.slice pt T.length ct, T)]) := Lib.hid (by rw [hL2, HLL.out])
      clear hL2 HLL
      have Hsm : Hid (∀ S wr v u l, Lw w L2 B S wr → IsPairs wr v l → IsPairs wr u l → Calls Tryz.prog 46 #[v, u] wr (LbOut w L2 B S wr true)) := Lib.hid (fun S wr v u l h h1 h2 => lw_same_yes h l l h1 h2 rfl)
      have z0 : wc.cell? ⟨b7, 0, none⟩ = some (.int .i64 m.kind) := (HL2.out.msg (n := b7) (m := m) (by simp [HB.out])).c0 0 _ rfl
      by_cases h4 : m.kind = 4
      · have hk : (m.kind == 4) = true := by simpa using h4
        have Ho2 := Lib.hid (E1.out h4)
        clear E1 E2 K2 h4
        have Hw : Hid (∀ wr u, Lw w L2 B [] wr → IsSpans wr u [preS m.src, preS m.dst] → Calls Tryz.prog 44 #[.slice pt T.length ct, u] wr (LwOut w L2 B [] wr O2)) := Lib.hid (fun wr u h hu => by rw [Ho2.out]; exact lw_without h T _ (h.at (by simp [HLL2.out])) hu (by omega))
        have Hps : Hid (∀ wr, Lw w L2 B [] wr → Calls Tryz.prog 49 #[.string (Str m.src)] wr fun e w' => e = .returned (.agg #[.string (Str m.src), .string (Str (preT m.src))]) ∧ Below wr.heap.size wr w') := Lib.hid (fun wr h => (rprefix_w m.src wr (by have := Hpl.out.1; omega)).mono fun e w' ⟨h1, h2⟩ => ⟨h1, h2.below (Nat.le_refl _)⟩)
        have Hpd : Hid (∀ wr, Lw w L2 B [] wr → Calls Tryz.prog 49 #[.string (Str m.dst)] wr fun e w' => e = .returned (.agg #[.string (Str m.dst), .string (Str (preT m.dst))]) ∧ Below wr.heap.size wr w') := Lib.hid (fun wr h => (rprefix_w m.dst wr (by have := Hpl.out.2; omega)).mono fun e w' ⟨h1, h2⟩ => ⟨h1, h2.below (Nat.le_refl _)⟩)
        have Hsp : Hid (∀ (W : World) k, k = W.heap.size → IsSpans (W.alloc (.cells #[.string (Str m.src), .string (Str (preT m.src)), .string (Str m.dst), .string (Str (preT m.dst))] 45)) (.slice (some ⟨k, 0, none⟩) 2 2) [preS m.src, preS m.dst]) := Lib.hid (fun W k hk => two_spans (preS m.src) (preS m.dst) 45 hk)
        have qt : ∀ wr, Lw w L2 B [] wr → IsPairs wr (.slice p2 O2.length c2) O2 := fun wr h => h.at (by simp [HLL2.out])
        have Qt := Lib.hid qt
        clear Ho2 qt
        go_upto_region 5 with fail
        have qm5 : ∀ wr, Lw w L2 B [] wr → wr.cell? ⟨b7, 5, none⟩ = some (.string (Str m.src)) := fun wr h => (h.msg (n := b7) (m := m) (by simp [HB.out])).c0 5 _ rfl
        have qm6 : ∀ wr, Lw w L2 B [] wr → wr.cell? ⟨b7, 6, none⟩ = some (.string (Str m.dst)) := fun wr h => (h.msg (n := b7) (m := m) (by simp [HB.out])).c0 6 _ rfl
        go_region_held3 (fun wr => Lw w L2 B [] wr) (first | with_reducible assumption | with_reducible exact HL2.out.drew | with_reducible exact Lw.alloc (by with_reducible assumption) _ | with_reducible exact Lw.below (by with_reducible assumption) (by with_reducible assumption))
          (first
            | (go_at_call 49; (with_reducible refine (Hps.out _ (by with_reducible assumption)).mono ?_); rintro e3 x3 ⟨rfl, hb3⟩)
            | (go_at_call 49; (with_reducible refine (Hpd.out _ (by with_reducible assumption)).mono ?_); rintro e4 x4 ⟨rfl, hb4⟩)
            | (go_at_call 44; (with_reducible refine (Hw.out _ _ (by with_reducible assumption) (by with_reducible exact Hsp.out _ _ rfl)).mono ?_); rintro e5 x5 ⟨p5, c5, rfl, hp5, hb5, hL5⟩; have hq5 := Qt.out _ hL5)
            | (go_at_call 46; (with_reducible refine (Hsm.out _ _ _ _ O2 (by with_reducible assumption) (by with_reducible assumption) (by with_reducible assumption)).mono ?_); rintro e6 x6 ⟨rfl, hb6, hL6⟩)
            | fail "no arm")
        all_goals
          have Hg := Lib.hid (Lw.g (by with_reducible assumption : Lw w L2 B [] x6))
          clear qm5 qm6
          go_wp2
          go_ret
          exact ⟨rfl, Hg.out⟩
      · have hk : (m.kind == 4) = false := by simpa using h4
        have Ho2 := Lib.hid (E2.out h4)
        clear E1 E2 h4
        have Hr : Hid (∀ wr, Lw w L2 B [] wr → Calls Tryz.prog 40 #[msgV o] wr (LsOut w L2 B [] wr (readsS o))) := Lib.hid (fun wr h => lw_reads h o Zo.out.1)
        have Hki : Hid (∀ wr, Lw w L2 B [] wr → Calls Tryz.prog 42 #[msgV o] wr (LsOut w L2 B [] wr (killsS o))) := Lib.hid (fun wr h => lw_kills h o Zo.out.1)
        have Hmi : Hid (∀ wr v u, Lw w L2 B [] wr → IsSpans wr v (killsS o) → IsSpans wr u (readsS o) → Calls Tryz.prog 48 #[v, u] wr (LsOut w L2 B [] wr (minusS (killsS o) (readsS o)))) := Lib.hid (fun wr v u h h1 h2 => lw_minus h _ _ h1 h2 (by have := kills_len o; omega) (by have := reads_len o; omega))
        have Ed : Hid (minusS (writesS m) (minusS (killsS o) (readsS o)) = [] → allS [m, o] T = applyS o T) := Lib.hid (fun h => dead_first sT.out h)
        have Nd : Hid ((minusS (killsS o) (readsS o)).length ≤ 100) := Lib.hid (by have := minus_length (killsS o) (readsS o); have := kills_len o; have := reads_len o; omega)
        generalize minusS (killsS o) (readsS o) = D at *
        go_upto_region 6 with fail
        go_cut [11] (fun s11 wx => ∃ pd cd, s11 = .slice pd D.length cd ∧ Hid (Lw w L2 B [(.slice pd D.length cd, D)] wx))
        case first =>
          have qo0 : ∀ wr, Lw w L2 B [] wr → wr.cell? ⟨b8, 0, none⟩ = some (.int .i64 o.kind) := fun wr h => (h.msg (n := b8) (m := o) (by simp [HB.out])).c0 0 _ rfl
          have qo1 : ∀ wr, Lw w L2 B [] wr → wr.cell? ⟨b8, 1, none⟩ = some (.string (Str o.key)) := fun wr h => (h.msg (n := b8) (m := o) (by simp [HB.out])).c0 1 _ rfl
          have qo2 : ∀ wr, Lw w L2 B [] wr → wr.cell? ⟨b8, 2, none⟩ = some (.string (Str o.val)) := fun wr h => (h.msg (n := b8) (m := o) (by simp [HB.out])).c0 2 _ rfl
          have qo3 : ∀ wr, Lw w L2 B [] wr → wr.cell? ⟨b8, 3, none⟩ = some (.string (Str o.lo)) := fun wr h => (h.msg (n := b8) (m := o) (by simp [HB.out])).c0 3 _ rfl
          have qo4 : ∀ wr, Lw w L2 B [] wr → wr.cell? ⟨b8, 4, none⟩ = some (.string (Str o.hi)) := fun wr h => (h.msg (n := b8) (m := o) (by simp [HB.out])).c0 4 _ rfl
          have qo5 : ∀ wr, Lw w L2 B [] wr → wr.cell? ⟨b8, 5, none⟩ = some (.string (Str o.src)) := fun wr h => (h.msg (n := b8) (m := o) (by simp [HB.out])).c0 5 _ rfl
          have qo6 : ∀ wr, Lw w L2 B [] wr → wr.cell? ⟨b8, 6, none⟩ = some (.string (Str o.dst)) := fun wr h => (h.msg (n := b8) (m := o) (by simp [HB.out])).c0 6 _ rfl
          have qo7 : ∀ wr, Lw w L2 B [] wr → wr.cell? ⟨b8, 7, none⟩ = some (.int .i64 o.n) := fun wr h => (h.msg (n := b8) (m := o) (by simp [HB.out])).c0 7 _ rfl
          go_region_held3 (fun wr => Lw w L2 B [] wr) (first | with_reducible assumption | with_reducible exact HL2.out.drew | with_reducible exact Lw.below (by with_reducible assumption) (by with_reducible assumption))
            (first
              | (go_at_call 42; (with_reducible refine (Hki.out _ (by with_reducible assumption)).mono ?_); rintro e3 x3 ⟨p3, c3, rfl, hp3, hb3, hL3⟩; (first | (with_reducible have hr3 := spans_below hb3 hp4) | skip))
              | (go_at_call 40; (with_reducible refine (Hr.out _ (by with_reducible assumption)).mono ?_); rintro e4 x4 ⟨p4, c4, rfl, hp4, hb4, hL4⟩; (first | (with_reducible have hk4 := spans_below hb4 hp3) | skip))
              | (go_at_call 48; (with_reducible refine (Hmi.out _ _ _ (by with_reducible assumption) (by with_reducible assumption) (by with_reducible assumption)).mono ?_); rintro e5 x5 ⟨p5, c5, rfl, hp5, hb5, hL5⟩)
              | fail "no arm")
          all_goals
            have H5 : Hid (Lw w L2 B [(.slice p5 D.length c5, D)] x5) := Lib.hid (hL5.addS hp5)
            clear qo0 qo1 qo2 qo3 qo4 qo5 qo6 qo7 hp5 hL5
            go_wp2_with fail
            go_meet
            exact ⟨p5, c5, rfl, H5⟩
        case rest =>
          obtain ⟨pd, cd, rfl, HL3⟩ := hcut
          clear Hr Hki Hmi HL2 z0
          obtain ⟨S3, hS3⟩ : ∃ S3 : List (Value × List Sp), S3 = [(.slice pd D.length cd, D)] := ⟨_, rfl⟩
          rw [← hS3] at HL3
          have HS3 := Lib.hid hS3
          clear hS3
          have Hwr : Hid (∀ wr, Lw w L2 B S3 wr → Calls Tryz.prog 41 #[msgV m] wr (LsOut w L2 B S3 wr (writesS m))) := Lib.hid (fun wr h => lw_writes h m Zm.out.1)
          have Hmi : Hid (∀ wr v, Lw w L2 B S3 wr → IsSpans wr v (writesS m) → Calls Tryz.prog 48 #[v, .slice pd D.length cd] wr (LsOut w L2 B S3 wr (minusS (writesS m) D))) := Lib.hid (fun wr v h h1 => lw_minus h _ _ h1 (h.sps (by simp [HS3.out])) (by have := writes_len m; omega) Nd.out)
          have Ha2 : Hid (∀ wr u, Lw w L2 B S3 wr → IsMsgs wr u [m, o] → Calls Tryz.prog 26 #[.slice pt T.length ct, u] wr (LwOut w L2 B S3 wr (allS [m, o] T))) := Lib.hid (fun wr u h hu => lw_all h T [m, o] (h.at (by simp [HLL2.out])) hu sT.out (by simp; exact ⟨Zm.out.1, Zo.out.1⟩) K2.out)
          have Ha3 : Hid (∀ wr, Lw w L2 B S3 wr → Calls Tryz.prog 47 #[.slice pt T.length ct, msgV o] wr (LwOut w L2 B S3 wr (applyS o T))) := Lib.hid (fun wr h => lw_apply h o T (h.at (by simp [HLL2.out])) sT.out (by omega) kT.out Zo.out.1)
          have Q1 : Hid (∀ wr, Lw w L2 B S3 wr → IsPairs wr (.slice p2 O2.length c2) O1) := Lib.hid (fun wr h => by have := h.at (v := .slice p2 O2.length c2) (l := O2) (by simp [HLL2.out]); rw [Ho2.out] at this ⊢; exact this)
          have Q2 : Hid (∀ wr, Lw w L2 B S3 wr → IsPairs wr (.slice p1 O1.length c1) O1) := Lib.hid (fun wr h => h.at (by simp [HLL2.out]))
          clear K2 Ho2
          generalize hX : minusS (writesS m) D = X at *
          go_upto_region 7 with fail
          go_cut [68] (fun s68 wx => s68 = .bool false ∧ Hid (Lw w L2 B S3 wx))
          case first =>
            cases X with
            | nil =>
              have Hd := Lib.hid (Ed.out rfl)
              generalize applyS o T = X2 at *
              generalize allS [m, o] T = X3 at *
              obtain rfl : X3 = X2 := Hd.out
              clear Hd Ed hX
              have qm0 : ∀ wr, Lw w L2 B S3 wr → wr.cell? ⟨b7, 0, none⟩ = some (.int .i64 m.kind) := fun wr h => (h.msg (n := b7) (m := m) (by simp [HB.out])).c0 0 _ rfl
              have qm1 : ∀ wr, Lw w L2 B S3 wr → wr.cell? ⟨b7, 1, none⟩ = some (.string (Str m.key)) := fun wr h => (h.msg (n := b7) (m := m) (by simp [HB.out])).c0 1 _ rfl
              have qm2 : ∀ wr, Lw w L2 B S3 wr → wr.cell? ⟨b7, 2, none⟩ = some (.string (Str m.val)) := fun wr h => (h.msg (n := b7) (m := m) (by simp [HB.out])).c0 2 _ rfl
              have qm3 : ∀ wr, Lw w L2 B S3 wr → wr.cell? ⟨b7, 3, none⟩ = some (.string (Str m.lo)) := fun wr h => (h.msg (n := b7) (m := m) (by simp [HB.out])).c0 3 _ rfl
              have qm4 : ∀ wr, Lw w L2 B S3 wr → wr.cell? ⟨b7, 4, none⟩ = some (.string (Str m.hi)) := fun wr h => (h.msg (n := b7) (m := m) (by simp [HB.out])).c0 4 _ rfl
              have qm5 : ∀ wr, Lw w L2 B S3 wr → wr.cell? ⟨b7, 5, none⟩ = some (.string (Str m.src)) := fun wr h => (h.msg (n := b7) (m := m) (by simp [HB.out])).c0 5 _ rfl
              have qm6 : ∀ wr, Lw w L2 B S3 wr → wr.cell? ⟨b7, 6, none⟩ = some (.string (Str m.dst)) := fun wr h => (h.msg (n := b7) (m := m) (by simp [HB.out])).c0 6 _ rfl
              have qm7 : ∀ wr, Lw w L2 B S3 wr → wr.cell? ⟨b7, 7, none⟩ = some (.int .i64 m.n) := fun wr h => (h.msg (n := b7) (m := m) (by simp [HB.out])).c0 7 _ rfl
              have qo0 : ∀ wr, Lw w L2 B S3 wr → wr.cell? ⟨b8, 0, none⟩ = some (.int .i64 o.kind) := fun wr h => (h.msg (n := b8) (m := o) (by simp [HB.out])).c0 0 _ rfl
              have qo1 : ∀ wr, Lw w L2 B S3 wr → wr.cell? ⟨b8, 1, none⟩ = some (.string (Str o.key)) := fun wr h => (h.msg (n := b8) (m := o) (by simp [HB.out])).c0 1 _ rfl
              have qo2 : ∀ wr, Lw w L2 B S3 wr → wr.cell? ⟨b8, 2, none⟩ = some (.string (Str o.val)) := fun wr h => (h.msg (n := b8) (m := o) (by simp [HB.out])).c0 2 _ rfl
              have qo3 : ∀ wr, Lw w L2 B S3 wr → wr.cell? ⟨b8, 3, none⟩ = some (.string (Str o.lo)) := fun wr h => (h.msg (n := b8) (m := o) (by simp [HB.out])).c0 3 _ rfl
              have qo4 : ∀ wr, Lw w L2 B S3 wr → wr.cell? ⟨b8, 4, none⟩ = some (.string (Str o.hi)) := fun wr h => (h.msg (n := b8) (m := o) (by simp [HB.out])).c0 4 _ rfl
              have qo5 : ∀ wr, Lw w L2 B S3 wr → wr.cell? ⟨b8, 5, none⟩ = some (.string (Str o.src)) := fun wr h => (h.msg (n := b8) (m := o) (by simp [HB.out])).c0 5 _ rfl
              have qo6 : ∀ wr, Lw w L2 B S3 wr → wr.cell? ⟨b8, 6, none⟩ = some (.string (Str o.dst)) := fun wr h => (h.msg (n := b8) (m := o) (by simp [HB.out])).c0 6 _ rfl
              have qo7 : ∀ wr, Lw w L2 B S3 wr → wr.cell? ⟨b8, 7, none⟩ = some (.int .i64 o.n) := fun wr h => (h.msg (n := b8) (m := o) (by simp [HB.out])).c0 7 _ rfl
              go_region_held3 (fun wr => Lw w L2 B S3 wr) (first | with_reducible assumption | with_reducible exact HL3.out.drew | with_reducible exact Lw.alloc (by with_reducible assumption) _ | with_reducible exact Lw.below (by with_reducible assumption) (by with_reducible assumption))
                (first
                  | (go_at_call 41; (with_reducible refine (Hwr.out _ (by with_reducible assumption)).mono ?_); rintro e3 x3 ⟨p3, c3, rfl, hp3, hb3, hL3⟩)
                  | (go_at_call 48; (with_reducible refine (Hmi.out _ _ (by with_reducible assumption) (by with_reducible assumption)).mono ?_); rintro e4 x4 ⟨p4, c4, rfl, hp4, hb4, hL4⟩)
                  | (go_at_call 26; (with_reducible refine (Ha2.out _ _ (by with_reducible assumption) (by first | with_reducible assumption | with_reducible exact new_msgs2 _ m o rfl)).mono ?_); rintro e5 x5 ⟨p5, c5, rfl, hp5, hb5, hL5⟩)
                  | (go_at_call 47; (with_reducible refine (Ha3.out _ (by with_reducible assumption)).mono ?_); rintro e6 x6 ⟨p6, c6, rfl, hp6, hb6, hL6⟩; have hq6 := pairs_below hb6 hp5)
                  | (go_at_call 46; (with_reducible refine (Hsm.out _ _ _ _ X3 (by with_reducible assumption) (by with_reducible assumption) (by with_reducible assumption)).mono ?_); rintro e7 x7 ⟨rfl, hb7, hL7⟩)
                  | fail "no arm")
              all_goals
                have H7 : Hid (Lw w L2 B S3 x7) := Lib.hid (by with_reducible assumption)
                clear qm0 qm1 qm2 qm3 qm4 qm5 qm6 qm7 qo0 qo1 qo2 qo3 qo4 qo5 qo6 qo7
                go_wp2_with fail
                go_meet
                exact ⟨rfl, H7⟩
            | cons x0 X0 =>
              obtain ⟨n, hn⟩ : ∃ n, n = (x0 :: X0).length := ⟨_, rfl⟩
              have Hm2 : Hid (∀ wr v, Lw w L2 B S3 wr → IsSpans wr v (writesS m) → Calls Tryz.prog 48 #[v, .slice pd D.length cd] wr fun e w' => ∃ p c, e = .returned (.slice p n c) ∧ Lw w L2 B S3 w') := Lib.hid (fun wr v h h1 => (Hmi.out wr v h h1).mono fun e w' ⟨p, c, h2, h3, h4, h5⟩ => ⟨p, c, by rw [hn]; exact h2, h5⟩)
              have hx : ((n : Int) == 0) = false := by rw [hn]; simp; omega
              have hx2 : ¬ ((n : Int) = 0) := by rw [hn]; simp; omega
              clear Ed hX Ha2 Ha3 Hmi hn
              have qm0 : ∀ wr, Lw w L2 B S3 wr → wr.cell? ⟨b7, 0, none⟩ = some (.int .i64 m.kind) := fun wr h => (h.msg (n := b7) (m := m) (by simp [HB.out])).c0 0 _ rfl
              have qm1 : ∀ wr, Lw w L2 B S3 wr → wr.cell? ⟨b7, 1, none⟩ = some (.string (Str m.key)) := fun wr h => (h.msg (n := b7) (m := m) (by simp [HB.out])).c0 1 _ rfl
              have qm2 : ∀ wr, Lw w L2 B S3 wr → wr.cell? ⟨b7, 2, none⟩ = some (.string (Str m.val)) := fun wr h => (h.msg (n := b7) (m := m) (by simp [HB.out])).c0 2 _ rfl
              have qm3 : ∀ wr, Lw w L2 B S3 wr → wr.cell? ⟨b7, 3, none⟩ = some (.string (Str m.lo)) := fun wr h => (h.msg (n := b7) (m := m) (by simp [HB.out])).c0 3 _ rfl
              have qm4 : ∀ wr, Lw w L2 B S3 wr → wr.cell? ⟨b7, 4, none⟩ = some (.string (Str m.hi)) := fun wr h => (h.msg (n := b7) (m := m) (by simp [HB.out])).c0 4 _ rfl
              have qm5 : ∀ wr, Lw w L2 B S3 wr → wr.cell? ⟨b7, 5, none⟩ = some (.string (Str m.src)) := fun wr h => (h.msg (n := b7) (m := m) (by simp [HB.out])).c0 5 _ rfl
              have qm6 : ∀ wr, Lw w L2 B S3 wr → wr.cell? ⟨b7, 6, none⟩ = some (.string (Str m.dst)) := fun wr h => (h.msg (n := b7) (m := m) (by simp [HB.out])).c0 6 _ rfl
              have qm7 : ∀ wr, Lw w L2 B S3 wr → wr.cell? ⟨b7, 7, none⟩ = some (.int .i64 m.n) := fun wr h => (h.msg (n := b7) (m := m) (by simp [HB.out])).c0 7 _ rfl
              have qo0 : ∀ wr, Lw w L2 B S3 wr → wr.cell? ⟨b8, 0, none⟩ = some (.int .i64 o.kind) := fun wr h => (h.msg (n := b8) (m := o) (by simp [HB.out])).c0 0 _ rfl
              have qo1 : ∀ wr, Lw w L2 B S3 wr → wr.cell? ⟨b8, 1, none⟩ = some (.string (Str o.key)) := fun wr h => (h.msg (n := b8) (m := o) (by simp [HB.out])).c0 1 _ rfl
              have qo2 : ∀ wr, Lw w L2 B S3 wr → wr.cell? ⟨b8, 2, none⟩ = some (.string (Str o.val)) := fun wr h => (h.msg (n := b8) (m := o) (by simp [HB.out])).c0 2 _ rfl
              have qo3 : ∀ wr, Lw w L2 B S3 wr → wr.cell? ⟨b8, 3, none⟩ = some (.string (Str o.lo)) := fun wr h => (h.msg (n := b8) (m := o) (by simp [HB.out])).c0 3 _ rfl
              have qo4 : ∀ wr, Lw w L2 B S3 wr → wr.cell? ⟨b8, 4, none⟩ = some (.string (Str o.hi)) := fun wr h => (h.msg (n := b8) (m := o) (by simp [HB.out])).c0 4 _ rfl
              have qo5 : ∀ wr, Lw w L2 B S3 wr → wr.cell? ⟨b8, 5, none⟩ = some (.string (Str o.src)) := fun wr h => (h.msg (n := b8) (m := o) (by simp [HB.out])).c0 5 _ rfl
              have qo6 : ∀ wr, Lw w L2 B S3 wr → wr.cell? ⟨b8, 6, none⟩ = some (.string (Str o.dst)) := fun wr h => (h.msg (n := b8) (m := o) (by simp [HB.out])).c0 6 _ rfl
              have qo7 : ∀ wr, Lw w L2 B S3 wr → wr.cell? ⟨b8, 7, none⟩ = some (.int .i64 o.n) := fun wr h => (h.msg (n := b8) (m := o) (by simp [HB.out])).c0 7 _ rfl
              refine wp_region_noPanic ?_
              refine wp_region_held_drew (S := fun wr => Lw w L2 B S3 wr) (by kernel_rfl) HL3.out.drew (fun hHeld => ?_)
              refine wpAnyH_take (i := 0) (oi := _) (v := ?_) rfl (by kernel_rfl) (by kernel_rfl) (by kernel_rfl) (fun _ _ _ h => h) (Or.inl ⟨by rfl, ?_⟩) (by with_reducible assumption) ?_
              rotate_left
              · intro wt hSw
                go_simp
                all_goals with_reducible rfl
              try simp only [Act.put, List.setIfInBounds_toArray]
              refine wpAnyH_take (i := 2) (oi := _) (v := ?_) rfl (by kernel_rfl) (by kernel_rfl) (by kernel_rfl) (fun _ _ _ h => h) (Or.inl ⟨by rfl, ?_⟩) (by with_reducible assumption) ?_
              rotate_left
              · intro wt hSw
                go_simp
                all_goals with_reducible rfl
              try simp only [Act.put]
              refine wpAnyH_ready (rs := [1]) (by kernel_rfl) (by simp) ?_
              refine AllReadyH.cons (o := _) rfl (fun K hK => ?_) AllReadyH.nil
              go_simp
              (go_at_call 41; (with_reducible refine (Hwr.out _ (by with_reducible assumption)).mono ?_); rintro e3 x3 ⟨p3, c3, rfl, hp3, hb3, hL3⟩)
              refine hK.out _ _ (by (first | with_reducible assumption | with_reducible exact Lw.below (by with_reducible assumption) (by with_reducible assumption))) (fun hHeld => ?_)
              clear hK K
              try simp only [List.setIfInBounds_toArray, List.set_cons_zero, List.set_cons_succ]
              refine wpAnyH_ready (rs := [3]) (by kernel_rfl) (by simp) ?_
              refine AllReadyH.cons (o := _) rfl (fun K hK => ?_) AllReadyH.nil
              go_simp
              (go_at_call 48; (with_reducible refine (Hm2.out _ _ (by with_reducible assumption) (by with_reducible assumption)).mono ?_); rintro e4 x4 ⟨p4, c4, rfl, hL4⟩)
              refine hK.out _ _ (by (first | with_reducible assumption | with_reducible exact Lw.below (by with_reducible assumption) (by with_reducible assumption))) (fun hHeld => ?_)
              clear hK K
              try simp only [List.setIfInBounds_toArray, List.set_cons_zero, List.set_cons_succ]
              refine wpAnyH_take (i := 4) (oi := _) (v := ?_) rfl (by kernel_rfl) (by kernel_rfl) (by kernel_rfl) (fun _ _ _ h => h) (Or.inl ⟨by rfl, ?_⟩) (by with_reducible assumption) ?_
              rotate_left
              · intro wt hSw
                go_simp
                all_goals with_reducible rfl
              try simp only [Act.put, List.setIfInBounds_toArray]
              refine wpAnyH_take (i := 5) (oi := _) (v := ?_) rfl (by kernel_rfl) (by kernel_rfl) (by kernel_rfl) (fun _ _ _ h => h) (Or.inl ⟨by rfl, ?_⟩) (by with_reducible assumption) ?_
              rotate_left
              · intro wt hSw
                go_simp
                all_goals with_reducible rfl
              try simp only [Act.put]
              refine wpAnyH_take (i := 6) (oi := _) (v := ?_) rfl (by kernel_rfl) (by kernel_rfl) (by kernel_rfl) (fun _ _ _ h => h) (Or.inl ⟨by rfl, ?_⟩) (by with_reducible assumption) ?_
              rotate_left
              · intro wt hSw
                go_simp
                all_goals with_reducible rfl
              try simp only [Act.put]
              refine wpAnyH_take (i := 7) (oi := _) (v := undef) rfl (by kernel_rfl) (by kernel_rfl) (by kernel_rfl) (fun _ _ _ h => h) (Or.inr ⟨by kernel_rfl, rfl⟩) (by with_reducible assumption) ?_
              simp only [Act.put, List.getElem_toArray, List.getElem_cons_zero, List.getElem_cons_succ, List.setIfInBounds_toArray, List.set_cons_zero, List.set_cons_succ]
              refine wpAnyH_take (i := 8) (oi := _) (v := undef) rfl (by kernel_rfl) (by kernel_rfl) (by kernel_rfl) (fun _ _ _ h => h) (Or.inr ⟨by kernel_rfl, rfl⟩) (by with_reducible assumption) ?_
              simp only [Act.put, List.getElem_toArray, List.getElem_cons_zero, List.getElem_cons_succ, List.setIfInBounds_toArray, List.set_cons_zero, List.set_cons_succ]
              refine wpAnyH_take (i := 9) (oi := _) (v := undef) rfl (by kernel_rfl) (by kernel_rfl) (by kernel_rfl) (fun _ _ _ h => h) (Or.inr ⟨by kernel_rfl, rfl⟩) (by with_reducible assumption) ?_
              simp only [Act.put, List.getElem_toArray, List.getElem_cons_zero, List.getElem_cons_succ, List.setIfInBounds_toArray, List.set_cons_zero, List.set_cons_succ]
              refine wpAnyH_take (i := 10) (oi := _) (v := undef) rfl (by kernel_rfl) (by kernel_rfl) (by kernel_rfl) (fun _ _ _ h => h) (Or.inr ⟨by kernel_rfl, rfl⟩) (by with_reducible assumption) ?_
              simp only [Act.put, List.getElem_toArray, List.getElem_cons_zero, List.getElem_cons_succ, List.setIfInBounds_toArray, List.set_cons_zero, List.set_cons_succ]
              refine wpAnyH_take (i := 11) (oi := _) (v := undef) rfl (by kernel_rfl) (by kernel_rfl) (by kernel_rfl) (fun _ _ _ h => h) (Or.inr ⟨by kernel_rfl, rfl⟩) (by with_reducible assumption) ?_
              simp only [Act.put, List.getElem_toArray, List.getElem_cons_zero, List.getElem_cons_succ, List.setIfInBounds_toArray, List.set_cons_zero, List.set_cons_succ]
              refine wpAnyH_take (i := 12) (oi := _) (v := undef) rfl (by kernel_rfl) (by kernel_rfl) (by kernel_rfl) (fun _ _ _ h => h) (Or.inr ⟨by kernel_rfl, rfl⟩) (by with_reducible assumption) ?_
              simp only [Act.put, List.getElem_toArray, List.getElem_cons_zero, List.getElem_cons_succ, List.setIfInBounds_toArray, List.set_cons_zero, List.set_cons_succ]
              refine wpAnyH_take (i := 13) (oi := _) (v := undef) rfl (by kernel_rfl) (by kernel_rfl) (by kernel_rfl) (fun _ _ _ h => h) (Or.inr ⟨by kernel_rfl, rfl⟩) (by with_reducible assumption) ?_
              simp only [Act.put, List.getElem_toArray, List.getElem_cons_zero, List.getElem_cons_succ, List.setIfInBounds_toArray, List.set_cons_zero, List.set_cons_succ]
              refine wpAnyH_take (i := 14) (oi := _) (v := undef) rfl (by kernel_rfl) (by kernel_rfl) (by kernel_rfl) (fun _ _ _ h => h) (Or.inr ⟨by kernel_rfl, rfl⟩) (by with_reducible assumption) ?_
              simp only [Act.put, List.getElem_toArray, List.getElem_cons_zero, List.getElem_cons_succ, List.setIfInBounds_toArray, List.set_cons_zero, List.set_cons_succ]
              refine wpAnyH_take (i := 15) (oi := _) (v := undef) rfl (by kernel_rfl) (by kernel_rfl) (by kernel_rfl) (fun _ _ _ h => h) (Or.inr ⟨by kernel_rfl, rfl⟩) (by with_reducible assumption) ?_
              simp only [Act.put, List.getElem_toArray, List.getElem_cons_zero, List.getElem_cons_succ, List.setIfInBounds_toArray, List.set_cons_zero, List.set_cons_succ]
              refine wpAnyH_take (i := 16) (oi := _) (v := undef) rfl (by kernel_rfl) (by kernel_rfl) (by kernel_rfl) (fun _ _ _ h => h) (Or.inr ⟨by kernel_rfl, rfl⟩) (by with_reducible assumption) ?_
              simp only [Act.put, List.getElem_toArray, List.getElem_cons_zero, List.getElem_cons_succ, List.setIfInBounds_toArray, List.set_cons_zero, List.set_cons_succ]
              refine wpAnyH_take (i := 17) (oi := _) (v := ?_) rfl (by kernel_rfl) (by kernel_rfl) (by kernel_rfl) (fun _ _ _ h => h) (Or.inl ⟨by rfl, ?_⟩) (by with_reducible assumption) ?_
              rotate_left
              · intro wt hSw
                go_simp
                all_goals with_reducible rfl
              try simp only [Act.put, List.setIfInBounds_toArray]
              simp only [List.getElem_toArray, List.getElem_cons_zero, List.getElem_cons_succ, List.set_cons_zero, List.set_cons_succ]
              refine wpAnyH_done (by kernel_rfl) ?_ _
              refine NoPanic.normal ?_
              clear qm0 qm1 qm2 qm3 qm4 qm5 qm6 qm7 qo0 qo1 qo2 qo3 qo4 qo5 qo6 qo7
              have H7 := Lib.hid hHeld
              go_wp2_with fail
              go_meet
              exact ⟨rfl, H7⟩
          case rest =>
            obtain ⟨rfl, HL4⟩ := hcut
            clear HL3 Hwr Hmi Ha2 Ha3 Ed
            go_upto_region 9 with fail
            go_wp2_with (go_at_call 46; refine (Hsm.out _ _ _ _ O1 HL4.out (Q2.out _ HL4.out) (Q1.out _ HL4.out)).mono ?_; rintro e7 x7 ⟨rfl, hb7, hL7⟩; have Hg := Lib.hid hL7.g; clear hL7 hb7)
            go_ret
            exact ⟨rfl, Hg.out⟩

end Go.Proofs.YtaafckefeejjpaaGreat
