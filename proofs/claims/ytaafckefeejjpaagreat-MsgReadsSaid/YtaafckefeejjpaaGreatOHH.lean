/-
  Plain facts for MsgReads; walks: the reference's joining of tables, and region 2 of the law MsgReads, one lemma a state. The walk of the law MsgReads.
-/
import Derived.Test.YtaafckefeejjpaaGreatFR
import Derived.Test.YtaafckefeejjpaaGreatNZ
import Derived.Test.YtaafckefeejjpaaGreatNJ
import Derived.Test.YtaafckefeejjpaaGreatMI
namespace Go.Proofs.YtaafckefeejjpaaGreat
open Go.RowKit Go.Sort
set_option linter.unusedVariables false

theorem mix_in {R : List Sp} {s t : List Pr} (hs : Srt s) (y : Pr) (hy : inB R y.1 = true) : y ∈ unionS (withoutS R t) (withinS R s) ↔ y ∈ s := by
  rw [mem_union _ (srt_within _ hs), mem_within, mem_without]
  simp [hy]
theorem mix_out {R : List Sp} {s t : List Pr} (hs : Srt s) (y : Pr) (hy : inB R y.1 = false) : y ∈ unionS (withoutS R t) (withinS R s) ↔ y ∈ t := by
  rw [mem_union _ (srt_within _ hs), mem_within, mem_without]
  constructor
  · rintro (⟨_, h⟩ | ⟨⟨h, _⟩, _⟩)
    · rw [hy] at h; cases h
    · exact h
  · intro h
    refine .inr ⟨⟨h, hy⟩, fun z hz e => ?_⟩
    have := ((mem_within _ _ _).1 hz).2
    rw [e, hy] at this; cases this
theorem reads_same {m : Ms} {s t : List Pr} (hs : Srt s) (ht : Srt t) : withinS (writesS m) (applyS m s) = withinS (writesS m) (applyS m (unionS (withoutS (readsS m) t) (withinS (readsS m) s))) := by
  have hu := srt_union (srt_without (readsS m) ht) (withinS (readsS m) s)
  refine Srt.unique (srt_within _ (srt_apply' m hs)) (srt_within _ (srt_apply' m hu)) fun x => ?_
  rw [mem_within, mem_within]
  refine and_congr_left fun hx => ?_
  exact apply_in m hs hu (fun y hy => (mix_in hs y hy).symm) x hx
theorem kills_same {m : Ms} {s t : List Pr} (hs : Srt s) (ht : Srt t) : applyS m s = applyS m (unionS (withoutS (minusS (killsS m) (readsS m)) s) (withinS (minusS (killsS m) (readsS m)) t)) := by
  have hu := srt_union (srt_without (minusS (killsS m) (readsS m)) hs) (withinS (minusS (killsS m) (readsS m)) t)
  have key : ∀ y : Pr, ¬ InL (minusS (killsS m) (readsS m)) y.1 → (y ∈ s ↔ y ∈ unionS (withoutS (minusS (killsS m) (readsS m)) s) (withinS (minusS (killsS m) (readsS m)) t)) := fun y hy => by
    refine (mix_out ht y ?_).symm
    cases e : inB (minusS (killsS m) (readsS m)) y.1 with
    | false => rfl
    | true => exact absurd ((inB_iff _ _).1 e) hy
  refine Srt.unique (srt_apply' m hs) (srt_apply' m hu) fun x => ?_
  cases hw : inB (writesS m) x.1 with
  | true =>
    refine apply_in m hs hu (fun y hy => key y fun hn => ?_) x hw
    exact ((minus_in _ _ _).1 hn).2 ((inB_iff _ _).1 hy)
  | false =>
    rw [apply_out m hs x hw, apply_out m hu x hw]
    refine key x fun hn => ?_
    have := (inB_iff _ _).2 (kills_writes m _ ((minus_in _ _ _).1 hn).1)
    rw [hw] at this; cases this
theorem rwrites_len (m : Ms) : (writesS m).length ≤ 2 := by unfold writesS; (repeat' split) <;> simp
theorem rreads_len (m : Ms) : (readsS m).length ≤ 2 := by unfold readsS; (repeat' split) <;> simp
theorem rkills_len (m : Ms) : (killsS m).length ≤ 2 := by unfold killsS; split; simp; exact rwrites_len m
theorem union_take (a b : List Pr) (k : Nat) (h : k < b.length) : unionS a (b.take (k + 1)) = putS b[k] (unionS a (b.take k)) := by
  rw [List.take_add_one, List.getElem?_eq_getElem h]; exact union_snoc _ _ _

set_option maxRecDepth 100000 in
set_option maxHeartbeats 2000000 in
theorem join_w (v0 v1 : Value) (a b : List Pr) (w : World) (h0 : IsPairs w v0 a) (h1 : IsPairs w v1 b) (sa : Srt a) (la : a.length + b.length ≤ 10000) (kb : ∀ x ∈ b, x.1.length ≤ maxLen ∧ x.2.1.length ≤ maxLen) :
    Calls Tryz.prog 43 #[v0, v1] w (OwnOut w.heap.size w (unionS a b)) := by
  obtain ⟨g, off, cap, p, rfl, hlc, hcm, hpp, hcc⟩ := h1.form
  unfold maxLen at hcm
  have HP := Lib.hid hpp
  have HC := Lib.hid hcc
  have H0 := Lib.hid h0
  have Kb := Lib.hid kb
  have Hsa := Lib.hid sa
  have Hu : Hid (∀ k, (unionS a (b.take k)).length ≤ 10000) := Lib.hid (fun k => by have := union_length a (b.take k); rw [List.length_take] at this; omega)
  have Hown0 := Lib.hid (own_empty w w.heap.size (Nat.le_refl _))
  clear h0 h1 hpp hcc kb sa
  go_enter Tryz.func43, Tryz.ntmps43
  go_wp2_with (at_builtin; refine append_pairs rfl _ _ rfl w.heap.size _ [] rfl Hown0.out _ a rfl (H0.out.below (below_box _)) (by simp; omega) (by simp) ?_; intro v2 w2 hown hbel; have Ho2 := Lib.hid hown; have Hb2 : Hid (Below w.heap.size w w2) := Lib.hid ((below_box _).trans hbel); clear hown hbel)
  go_loopw [5, 6] (fun x i wr => ∃ k : Nat, k ≤ b.length ∧ i = .int .i64 k ∧ wr.ownsRow w.heap.size 91 3 x (unionS a (b.take k)).length ((unionS a (b.take k)).flatMap encP) ∧ IsPairs wr x (unionS a (b.take k)) ∧ Below w.heap.size w wr) (fun _ i _ => b.length - (intOf i).toNat)
  case atStart => exact ⟨0, Nat.zero_le _, rfl, Ho2.out, IsPairs.owned Ho2.out (fun x hx => H0.out.small x hx), Hb2.out⟩
  case round =>
    obtain ⟨k, hk, rfl, hown, hp, hbel⟩ := hrel
    clear Hb2 Ho2 Hown0
    have hsz := hbel.size
    have Hown := Lib.hid hown
    have Hp := Lib.hid hp
    have Hbel := Lib.hid hbel
    clear hown hp hbel
    by_cases hlt : k < b.length
    · obtain ⟨rfl, c0⟩ := HC.out k hlt
      have hgl := (HP.out (by rintro rfl; simp at hlt)).2
      have hltz : (k : Int) < (b.length : Int) := by omega
      obtain ⟨x0, x1, x2⟩ := cells_in Hbel.out hgl c0
      have Htk := Lib.hid (union_take a b k hlt)
      have HI := Lib.hid (insert_w u5 _ b[k].1 b[k].2.1 b[k].2.2 wr Hp.out (srt_union Hsa.out _) (by have := Hu.out k; omega) (Kb.out _ (List.getElem_mem hlt)))
      generalize b[k] = x at *
      obtain ⟨xk, xv, xt⟩ := x
      simp only at x0 x1 x2
      clear c0
      go_wp2_with (go_at_call 82; refine HI.out.mono ?_; rintro e w3 ⟨v3, rfl, hown3, hp3, hb3⟩; have Hown3 := Lib.hid hown3; have Hp3 := Lib.hid hp3; have Hb3 := Lib.hid hb3; clear hown3 hp3 hb3)
      go_roundw
      case rel => exact ⟨k + 1, by omega, by go_num, by rw [Htk.out]; exact owns_lower Hown3.out hsz, by rw [Htk.out]; exact Hp3.out, Hbel.out.trans (Hb3.out.mono hsz)⟩
      case measure => simp [intOf]; omega
    · obtain rfl : k = b.length := by omega
      rw [List.take_length] at Hown Hp
      go_wp2
      go_ret
      exact ⟨_, rfl, Hown.out, Hp.out, Hbel.out⟩
theorem lw_join {w : World} {L : List (Value × List Pr)} {B : List (Nat × Ms)} {S : List (Value × List Sp)} {wx : World} (h : Lw w L B S wx) {v u : Value} (a b : List Pr) (ha : IsPairs wx v a) (hb : IsPairs wx u b) (sa : Srt a) (la : a.length + b.length ≤ 10000) :
    Calls Tryz.prog 43 #[v, u] wx (LwOut w L B S wx (unionS a b)) :=
  (join_w v u a b wx ha hb sa la (fun x hx => hb.small x hx)).mono fun _ _ hh => OwnOut.lw h hh
theorem lw_minus' {w : World} {L : List (Value × List Pr)} {B : List (Nat × Ms)} {S : List (Value × List Sp)} {wx : World} (h : Lw w L B S wx) {v u : Value} (a b : List Sp) (ha : IsSpans wx v a) (hb : IsSpans wx u b) (la : a.length ≤ 400) (lb : b.length ≤ 100) :
    Calls Tryz.prog 48 #[v, u] wx (LsOut w L B S wx (minusS a b)) :=
  (rminus_w v u a b wx ha hb la lb).mono fun e w' ⟨v', he, ho, hb'⟩ => by
    obtain ⟨p, cap, rfl, -⟩ := own_form ho
    exact ⟨p, cap, he, IsSpans.owned ho, hb', h.below hb'⟩

noncomputable def rd2R : Code := ((Tryz.f11.body.bind (codeReg 2)).getD .skip)
set_option maxRecDepth 1000000 in
set_option maxHeartbeats 8000000 in
theorem rd2_3_0 (w : World) (v0 v1 : Value) (a b c d e f : Nat) (A C : List Pr) (m : Ms) (Htb0 : ∀ wr, Bx6 w a b c d e f wr → Calls Tryz.prog 39 #[v0, .int .i64 12] wr (MOut wr A)) (Htb1 : ∀ wr, Bx6 w a b c d e f wr → Calls Tryz.prog 39 #[v1, .int .i64 12] wr (MOut wr C)) (Hm1 : ∀ wr, Calls Tryz.prog 29 #[.agg #[.int .u8 a, .int .u8 b, .int .u8 c, .int .u8 d, .int .u8 e, .int .u8 f]] wr fun e w' => e = .returned (msgV m) ∧ Below wr.heap.size wr w') (s2 s3 s4 s11 s12 s13 s14 s15 s16 s17 s24 s25 s26 s27 s28 s29 s30 s31 s32 s33 s34 s35 s36 s37 s38 s39 s40 s41 s42 s43 s44 s45 s46 s47 s48 s49 s50 s51 s52 s53 s54 s55 s56 s57 s58 s59 s60 s61 s62 s63 s64 s65 s66 s67 s68 : Value) (Q : Exit → Act → World → Prop) (hQ : ∀ (u18 u19 u20 u21 u22 u23 : Value) (p0 : Option Addr) (c0 : Nat) (p1 : Option Addr) (c1 : Nat) (b10 : Nat) (wx : World), Lw w [(.slice p0 A.length c0, A), (.slice p1 C.length c1, C)] [(b10, m)] [] wx → Q .normal ⟨#[v0, v1, s2, s3, s4, .pointer (some ⟨w.heap.size, 0, none⟩), .bool false, .bool true, .slice p0 A.length c0, .slice p1 C.length c1, .pointer (some ⟨b10, 0, none⟩), s11, s12, s13, s14, s15, s16, s17, u18, u19, u20, u21, u22, u23, s24, s25, s26, s27, s28, s29, s30, s31, s32, s33, s34, s35, s36, s37, s38, s39, s40, s41, s42, s43, s44, s45, s46, s47, s48, s49, s50, s51, s52, s53, s54, s55, s56, s57, s58, s59, s60, s61, s62, s63, s64, s65, s66, s67, s68], []⟩ wx)
    (s8 s9 : Value) (wx : World) (hHeld : Bx6 w a b c d e f wx) (p0 : Option Addr) (c0 : Nat) (hp0 : IsPairs wx (.slice p0 A.length c0) A) (p1 : Option Addr) (c1 : Nat) (hp1 : IsPairs wx (.slice p1 C.length c1) C) (b10 : Nat) (hz0 : Blk wx b10 47 #[.int .i64 0, .string ⟨#[]⟩, .string ⟨#[]⟩, .string ⟨#[]⟩, .string ⟨#[]⟩, .string ⟨#[]⟩, .string ⟨#[]⟩, .int .i64 0]) (hl0 : w.heap.size < b10) (ho0_0 : OffB b10 p0 A) (ho0_1 : OffB b10 p1 C) :
    wpAnyH Tryz.prog .any (codeOps rd2R) (NoPanic Q) (fun wr => Bx6 w a b c d e f wr) 3 #[true, true, true, true, true, true, true, false, false, false] ⟨#[v0, v1, s2, s3, s4, .pointer (some ⟨w.heap.size, 0, none⟩), .bool false, .bool true, s8, s9, .pointer (some ⟨b10, 0, none⟩), s11, s12, s13, s14, s15, s16, s17, v0, .slice p0 A.length c0, v1, .slice p1 C.length c1, .agg #[.int .u8 a, .int .u8 b, .int .u8 c, .int .u8 d, .int .u8 e, .int .u8 f], msgV m, s24, s25, s26, s27, s28, s29, s30, s31, s32, s33, s34, s35, s36, s37, s38, s39, s40, s41, s42, s43, s44, s45, s46, s47, s48, s49, s50, s51, s52, s53, s54, s55, s56, s57, s58, s59, s60, s61, s62, s63, s64, s65, s66, s67, s68], []⟩ wx := by
  have HQ := Lib.hid hQ
  clear hQ
  conv => arg 3; arg 1; whnf
  dsimp only [codeOps]
  refine wpAnyH_take (i := 7) (oi := _) (v := ?_) rfl (by kernel_rfl) (by kernel_rfl) (by kernel_rfl) (fun _ _ _ h => h) (Or.inl ⟨by rfl, ?_⟩) (by with_reducible assumption) ?_
  rotate_left
  · intro wt hSw
    go_simp
    all_goals with_reducible rfl
  try simp only [Act.put, List.setIfInBounds_toArray, List.set_cons_zero, List.set_cons_succ]
  refine wpAnyH_take (i := 8) (oi := _) (v := ?_) rfl (by kernel_rfl) (by kernel_rfl) (by kernel_rfl) (fun _ _ _ h => h) (Or.inl ⟨by rfl, ?_⟩) (by with_reducible assumption) ?_
  rotate_left
  · intro wt hSw
    go_simp
    all_goals with_reducible rfl
  try simp only [Act.put, List.setIfInBounds_toArray, List.set_cons_zero, List.set_cons_succ]
  have d0 := hz0.c0 0 _ rfl
  have g0 := hz0.free 0
  have d1 := hz0.c0 1 _ rfl
  have g1 := hz0.free 1
  have d2 := hz0.c0 2 _ rfl
  have g2 := hz0.free 2
  have d3 := hz0.c0 3 _ rfl
  have g3 := hz0.free 3
  have d4 := hz0.c0 4 _ rfl
  have g4 := hz0.free 4
  have d5 := hz0.c0 5 _ rfl
  have g5 := hz0.free 5
  have d6 := hz0.c0 6 _ rfl
  have g6 := hz0.free 6
  have d7 := hz0.c0 7 _ rfl
  have g7 := hz0.free 7
  refine wpAnyH_ready (rs := [9]) (by kernel_rfl) (by simp) ?_
  refine AllReadyH.cons (o := _) rfl (fun K hK => ?_) AllReadyH.nil
  go_simp
  clear d0 g0 d1 g1 d2 g2 d3 g3 d4 g4 d5 g5 d6 g6 d7 g7
  refine hK.out _ _ (by with_reducible exact Bx6.st8 (by with_reducible assumption) b10 hl0 m) (fun hHeld => ?_)
  clear hK K
  try simp only [List.setIfInBounds_toArray, List.set_cons_zero, List.set_cons_succ]
  have hp0 : IsPairs ((((((((wx.setCell ⟨b10, 0, none⟩ (.int .i64 m.kind)).setCell ⟨b10, 1, none⟩ (.string (Str m.key))).setCell ⟨b10, 2, none⟩ (.string (Str m.val))).setCell ⟨b10, 3, none⟩ (.string (Str m.lo))).setCell ⟨b10, 4, none⟩ (.string (Str m.hi))).setCell ⟨b10, 5, none⟩ (.string (Str m.src))).setCell ⟨b10, 6, none⟩ (.string (Str m.dst))).setCell ⟨b10, 7, none⟩ (.int .i64 m.n)) _ _ := hp0.st8 ho0_0 m
  have hp1 : IsPairs ((((((((wx.setCell ⟨b10, 0, none⟩ (.int .i64 m.kind)).setCell ⟨b10, 1, none⟩ (.string (Str m.key))).setCell ⟨b10, 2, none⟩ (.string (Str m.val))).setCell ⟨b10, 3, none⟩ (.string (Str m.lo))).setCell ⟨b10, 4, none⟩ (.string (Str m.hi))).setCell ⟨b10, 5, none⟩ (.string (Str m.src))).setCell ⟨b10, 6, none⟩ (.string (Str m.dst))).setCell ⟨b10, 7, none⟩ (.int .i64 m.n)) _ _ := hp1.st8 ho0_1 m
  have hm0 : MBlk ((((((((wx.setCell ⟨b10, 0, none⟩ (.int .i64 m.kind)).setCell ⟨b10, 1, none⟩ (.string (Str m.key))).setCell ⟨b10, 2, none⟩ (.string (Str m.val))).setCell ⟨b10, 3, none⟩ (.string (Str m.lo))).setCell ⟨b10, 4, none⟩ (.string (Str m.hi))).setCell ⟨b10, 5, none⟩ (.string (Str m.src))).setCell ⟨b10, 6, none⟩ (.string (Str m.dst))).setCell ⟨b10, 7, none⟩ (.int .i64 m.n)) _ _ := MBlk.st8 (m0 := zeroM 0) hz0 m
  clear hz0
  generalize (((((((wx.setCell ⟨b10, 0, none⟩ (.int .i64 m.kind)).setCell ⟨b10, 1, none⟩ (.string (Str m.key))).setCell ⟨b10, 2, none⟩ (.string (Str m.val))).setCell ⟨b10, 3, none⟩ (.string (Str m.lo))).setCell ⟨b10, 4, none⟩ (.string (Str m.hi))).setCell ⟨b10, 5, none⟩ (.string (Str m.src))).setCell ⟨b10, 6, none⟩ (.string (Str m.dst))).setCell ⟨b10, 7, none⟩ (.int .i64 m.n) = wy0 at *
  refine wpAnyH_done (by kernel_rfl) (NoPanic.normal (HQ.out _ _ _ _ _ _ p0 c0 p1 c1 b10 _ ?_)) _
  exact ⟨hHeld.g, (fun x hx => by simp only [List.mem_cons, List.not_mem_nil, or_false] at hx; rcases hx with rfl | rfl <;> assumption), (fun x hx => by simp only [List.mem_cons, List.not_mem_nil, or_false] at hx; rcases hx with rfl <;> assumption), (fun x hx => by cases hx)⟩
set_option maxRecDepth 1000000 in
set_option maxHeartbeats 8000000 in
theorem rd2_3_n (w : World) (v0 v1 : Value) (a b c d e f : Nat) (A C : List Pr) (m : Ms) (Htb0 : ∀ wr, Bx6 w a b c d e f wr → Calls Tryz.prog 39 #[v0, .int .i64 12] wr (MOut wr A)) (Htb1 : ∀ wr, Bx6 w a b c d e f wr → Calls Tryz.prog 39 #[v1, .int .i64 12] wr (MOut wr C)) (Hm1 : ∀ wr, Calls Tryz.prog 29 #[.agg #[.int .u8 a, .int .u8 b, .int .u8 c, .int .u8 d, .int .u8 e, .int .u8 f]] wr fun e w' => e = .returned (msgV m) ∧ Below wr.heap.size wr w') (s2 s3 s4 s11 s12 s13 s14 s15 s16 s17 s24 s25 s26 s27 s28 s29 s30 s31 s32 s33 s34 s35 s36 s37 s38 s39 s40 s41 s42 s43 s44 s45 s46 s47 s48 s49 s50 s51 s52 s53 s54 s55 s56 s57 s58 s59 s60 s61 s62 s63 s64 s65 s66 s67 s68 : Value) (Q : Exit → Act → World → Prop) (hQ : ∀ (u18 u19 u20 u21 u22 u23 : Value) (p0 : Option Addr) (c0 : Nat) (p1 : Option Addr) (c1 : Nat) (b10 : Nat) (wx : World), Lw w [(.slice p0 A.length c0, A), (.slice p1 C.length c1, C)] [(b10, m)] [] wx → Q .normal ⟨#[v0, v1, s2, s3, s4, .pointer (some ⟨w.heap.size, 0, none⟩), .bool false, .bool true, .slice p0 A.length c0, .slice p1 C.length c1, .pointer (some ⟨b10, 0, none⟩), s11, s12, s13, s14, s15, s16, s17, u18, u19, u20, u21, u22, u23, s24, s25, s26, s27, s28, s29, s30, s31, s32, s33, s34, s35, s36, s37, s38, s39, s40, s41, s42, s43, s44, s45, s46, s47, s48, s49, s50, s51, s52, s53, s54, s55, s56, s57, s58, s59, s60, s61, s62, s63, s64, s65, s66, s67, s68], []⟩ wx)
    (s8 s9 s10 : Value) (wx : World) (hHeld : Bx6 w a b c d e f wx) (p0 : Option Addr) (c0 : Nat) (hp0 : IsPairs wx (.slice p0 A.length c0) A) (p1 : Option Addr) (c1 : Nat) (hp1 : IsPairs wx (.slice p1 C.length c1) C) :
    wpAnyH Tryz.prog .any (codeOps rd2R) (NoPanic Q) (fun wr => Bx6 w a b c d e f wr) 4 #[true, true, true, true, true, true, false, false, false, false] ⟨#[v0, v1, s2, s3, s4, .pointer (some ⟨w.heap.size, 0, none⟩), .bool false, .bool true, s8, s9, s10, s11, s12, s13, s14, s15, s16, s17, v0, .slice p0 A.length c0, v1, .slice p1 C.length c1, .agg #[.int .u8 a, .int .u8 b, .int .u8 c, .int .u8 d, .int .u8 e, .int .u8 f], msgV m, s24, s25, s26, s27, s28, s29, s30, s31, s32, s33, s34, s35, s36, s37, s38, s39, s40, s41, s42, s43, s44, s45, s46, s47, s48, s49, s50, s51, s52, s53, s54, s55, s56, s57, s58, s59, s60, s61, s62, s63, s64, s65, s66, s67, s68], []⟩ wx := by
  have HN0 := Lib.hid (rd2_3_0 w v0 v1 a b c d e f A C m Htb0 Htb1 Hm1 s2 s3 s4 s11 s12 s13 s14 s15 s16 s17 s24 s25 s26 s27 s28 s29 s30 s31 s32 s33 s34 s35 s36 s37 s38 s39 s40 s41 s42 s43 s44 s45 s46 s47 s48 s49 s50 s51 s52 s53 s54 s55 s56 s57 s58 s59 s60 s61 s62 s63 s64 s65 s66 s67 s68 Q hQ)
  clear hQ
  have hltw := hHeld.b.lt
  conv => arg 3; arg 1; whnf
  dsimp only [codeOps]
  refine wpAnyH_ready (rs := [6]) (by kernel_rfl) (by simp) ?_
  refine AllReadyH.cons (o := _) rfl (fun K hK => ?_) AllReadyH.nil
  · go_simp
    refine hK.out _ _ (by (first | with_reducible assumption | with_reducible exact Bx6.below (by with_reducible assumption) (by with_reducible assumption) | with_reducible exact Bx6.alloc (by with_reducible assumption) _)) (fun hHeld => ?_)
    clear hK K
    try simp only [List.setIfInBounds_toArray, List.set_cons_zero, List.set_cons_succ]
    exact wpAnyH_listed (by kernel_rfl) (HN0.out _ _ _ (by with_reducible assumption) _ _ (hp0.alloc _) _ _ (hp1.alloc _) _ (Blk.new _ _ _) hltw (hp0.off_size (Nat.le_refl _)) (hp1.off_size (Nat.le_refl _)))
set_option maxRecDepth 1000000 in
set_option maxHeartbeats 8000000 in
theorem rd2_2_0 (w : World) (v0 v1 : Value) (a b c d e f : Nat) (A C : List Pr) (m : Ms) (Htb0 : ∀ wr, Bx6 w a b c d e f wr → Calls Tryz.prog 39 #[v0, .int .i64 12] wr (MOut wr A)) (Htb1 : ∀ wr, Bx6 w a b c d e f wr → Calls Tryz.prog 39 #[v1, .int .i64 12] wr (MOut wr C)) (Hm1 : ∀ wr, Calls Tryz.prog 29 #[.agg #[.int .u8 a, .int .u8 b, .int .u8 c, .int .u8 d, .int .u8 e, .int .u8 f]] wr fun e w' => e = .returned (msgV m) ∧ Below wr.heap.size wr w') (s2 s3 s4 s11 s12 s13 s14 s15 s16 s17 s24 s25 s26 s27 s28 s29 s30 s31 s32 s33 s34 s35 s36 s37 s38 s39 s40 s41 s42 s43 s44 s45 s46 s47 s48 s49 s50 s51 s52 s53 s54 s55 s56 s57 s58 s59 s60 s61 s62 s63 s64 s65 s66 s67 s68 : Value) (Q : Exit → Act → World → Prop) (hQ : ∀ (u18 u19 u20 u21 u22 u23 : Value) (p0 : Option Addr) (c0 : Nat) (p1 : Option Addr) (c1 : Nat) (b10 : Nat) (wx : World), Lw w [(.slice p0 A.length c0, A), (.slice p1 C.length c1, C)] [(b10, m)] [] wx → Q .normal ⟨#[v0, v1, s2, s3, s4, .pointer (some ⟨w.heap.size, 0, none⟩), .bool false, .bool true, .slice p0 A.length c0, .slice p1 C.length c1, .pointer (some ⟨b10, 0, none⟩), s11, s12, s13, s14, s15, s16, s17, u18, u19, u20, u21, u22, u23, s24, s25, s26, s27, s28, s29, s30, s31, s32, s33, s34, s35, s36, s37, s38, s39, s40, s41, s42, s43, s44, s45, s46, s47, s48, s49, s50, s51, s52, s53, s54, s55, s56, s57, s58, s59, s60, s61, s62, s63, s64, s65, s66, s67, s68], []⟩ wx)
    (s8 s9 s23 : Value) (wx : World) (hHeld : Bx6 w a b c d e f wx) (p0 : Option Addr) (c0 : Nat) (hp0 : IsPairs wx (.slice p0 A.length c0) A) (p1 : Option Addr) (c1 : Nat) (hp1 : IsPairs wx (.slice p1 C.length c1) C) (b10 : Nat) (hz0 : Blk wx b10 47 #[.int .i64 0, .string ⟨#[]⟩, .string ⟨#[]⟩, .string ⟨#[]⟩, .string ⟨#[]⟩, .string ⟨#[]⟩, .string ⟨#[]⟩, .int .i64 0]) (hl0 : w.heap.size < b10) (ho0_0 : OffB b10 p0 A) (ho0_1 : OffB b10 p1 C) :
    wpAnyH Tryz.prog .any (codeOps rd2R) (NoPanic Q) (fun wr => Bx6 w a b c d e f wr) 4 #[true, true, true, true, true, false, true, false, false, false] ⟨#[v0, v1, s2, s3, s4, .pointer (some ⟨w.heap.size, 0, none⟩), .bool false, .bool true, s8, s9, .pointer (some ⟨b10, 0, none⟩), s11, s12, s13, s14, s15, s16, s17, v0, .slice p0 A.length c0, v1, .slice p1 C.length c1, .agg #[.int .u8 a, .int .u8 b, .int .u8 c, .int .u8 d, .int .u8 e, .int .u8 f], s23, s24, s25, s26, s27, s28, s29, s30, s31, s32, s33, s34, s35, s36, s37, s38, s39, s40, s41, s42, s43, s44, s45, s46, s47, s48, s49, s50, s51, s52, s53, s54, s55, s56, s57, s58, s59, s60, s61, s62, s63, s64, s65, s66, s67, s68], []⟩ wx := by
  have HN0 := Lib.hid (rd2_3_0 w v0 v1 a b c d e f A C m Htb0 Htb1 Hm1 s2 s3 s4 s11 s12 s13 s14 s15 s16 s17 s24 s25 s26 s27 s28 s29 s30 s31 s32 s33 s34 s35 s36 s37 s38 s39 s40 s41 s42 s43 s44 s45 s46 s47 s48 s49 s50 s51 s52 s53 s54 s55 s56 s57 s58 s59 s60 s61 s62 s63 s64 s65 s66 s67 s68 Q hQ)
  clear hQ
  have hltw := hHeld.b.lt
  conv => arg 3; arg 1; whnf
  dsimp only [codeOps]
  refine wpAnyH_ready (rs := [5]) (by kernel_rfl) (by simp) ?_
  refine AllReadyH.cons (o := _) rfl (fun K hK => ?_) AllReadyH.nil
  · go_simp
    (go_at_call 29; (with_reducible refine (Hm1 _).mono ?_); rintro e x2 ⟨rfl, hb⟩)
    refine hK.out _ _ (by (first | with_reducible assumption | with_reducible exact Bx6.below (by with_reducible assumption) (by with_reducible assumption) | with_reducible exact Bx6.alloc (by with_reducible assumption) _)) (fun hHeld => ?_)
    clear hK K
    try simp only [List.setIfInBounds_toArray, List.set_cons_zero, List.set_cons_succ]
    exact wpAnyH_listed (by kernel_rfl) (HN0.out _ _ _ (by with_reducible assumption) _ _ (hp0.below hb) _ _ (hp1.below hb) _ (hz0.below hb hz0.lt) hl0 ho0_0 ho0_1)
set_option maxRecDepth 1000000 in
set_option maxHeartbeats 8000000 in
theorem rd2_2_n (w : World) (v0 v1 : Value) (a b c d e f : Nat) (A C : List Pr) (m : Ms) (Htb0 : ∀ wr, Bx6 w a b c d e f wr → Calls Tryz.prog 39 #[v0, .int .i64 12] wr (MOut wr A)) (Htb1 : ∀ wr, Bx6 w a b c d e f wr → Calls Tryz.prog 39 #[v1, .int .i64 12] wr (MOut wr C)) (Hm1 : ∀ wr, Calls Tryz.prog 29 #[.agg #[.int .u8 a, .int .u8 b, .int .u8 c, .int .u8 d, .int .u8 e, .int .u8 f]] wr fun e w' => e = .returned (msgV m) ∧ Below wr.heap.size wr w') (s2 s3 s4 s11 s12 s13 s14 s15 s16 s17 s24 s25 s26 s27 s28 s29 s30 s31 s32 s33 s34 s35 s36 s37 s38 s39 s40 s41 s42 s43 s44 s45 s46 s47 s48 s49 s50 s51 s52 s53 s54 s55 s56 s57 s58 s59 s60 s61 s62 s63 s64 s65 s66 s67 s68 : Value) (Q : Exit → Act → World → Prop) (hQ : ∀ (u18 u19 u20 u21 u22 u23 : Value) (p0 : Option Addr) (c0 : Nat) (p1 : Option Addr) (c1 : Nat) (b10 : Nat) (wx : World), Lw w [(.slice p0 A.length c0, A), (.slice p1 C.length c1, C)] [(b10, m)] [] wx → Q .normal ⟨#[v0, v1, s2, s3, s4, .pointer (some ⟨w.heap.size, 0, none⟩), .bool false, .bool true, .slice p0 A.length c0, .slice p1 C.length c1, .pointer (some ⟨b10, 0, none⟩), s11, s12, s13, s14, s15, s16, s17, u18, u19, u20, u21, u22, u23, s24, s25, s26, s27, s28, s29, s30, s31, s32, s33, s34, s35, s36, s37, s38, s39, s40, s41, s42, s43, s44, s45, s46, s47, s48, s49, s50, s51, s52, s53, s54, s55, s56, s57, s58, s59, s60, s61, s62, s63, s64, s65, s66, s67, s68], []⟩ wx)
    (s8 s9 s10 s23 : Value) (wx : World) (hHeld : Bx6 w a b c d e f wx) (p0 : Option Addr) (c0 : Nat) (hp0 : IsPairs wx (.slice p0 A.length c0) A) (p1 : Option Addr) (c1 : Nat) (hp1 : IsPairs wx (.slice p1 C.length c1) C) :
    wpAnyH Tryz.prog .any (codeOps rd2R) (NoPanic Q) (fun wr => Bx6 w a b c d e f wr) 5 #[true, true, true, true, true, false, false, false, false, false] ⟨#[v0, v1, s2, s3, s4, .pointer (some ⟨w.heap.size, 0, none⟩), .bool false, .bool true, s8, s9, s10, s11, s12, s13, s14, s15, s16, s17, v0, .slice p0 A.length c0, v1, .slice p1 C.length c1, .agg #[.int .u8 a, .int .u8 b, .int .u8 c, .int .u8 d, .int .u8 e, .int .u8 f], s23, s24, s25, s26, s27, s28, s29, s30, s31, s32, s33, s34, s35, s36, s37, s38, s39, s40, s41, s42, s43, s44, s45, s46, s47, s48, s49, s50, s51, s52, s53, s54, s55, s56, s57, s58, s59, s60, s61, s62, s63, s64, s65, s66, s67, s68], []⟩ wx := by
  have HN0 := Lib.hid (rd2_3_n w v0 v1 a b c d e f A C m Htb0 Htb1 Hm1 s2 s3 s4 s11 s12 s13 s14 s15 s16 s17 s24 s25 s26 s27 s28 s29 s30 s31 s32 s33 s34 s35 s36 s37 s38 s39 s40 s41 s42 s43 s44 s45 s46 s47 s48 s49 s50 s51 s52 s53 s54 s55 s56 s57 s58 s59 s60 s61 s62 s63 s64 s65 s66 s67 s68 Q hQ)
  have HN1 := Lib.hid (rd2_2_0 w v0 v1 a b c d e f A C m Htb0 Htb1 Hm1 s2 s3 s4 s11 s12 s13 s14 s15 s16 s17 s24 s25 s26 s27 s28 s29 s30 s31 s32 s33 s34 s35 s36 s37 s38 s39 s40 s41 s42 s43 s44 s45 s46 s47 s48 s49 s50 s51 s52 s53 s54 s55 s56 s57 s58 s59 s60 s61 s62 s63 s64 s65 s66 s67 s68 Q hQ)
  clear hQ
  have hltw := hHeld.b.lt
  conv => arg 3; arg 1; whnf
  dsimp only [codeOps]
  refine wpAnyH_ready (rs := [5, 6]) (by kernel_rfl) (by simp) ?_
  refine AllReadyH.cons (o := _) rfl (fun K hK => ?_) (AllReadyH.cons (o := _) rfl (fun K hK => ?_) AllReadyH.nil)
  · go_simp
    (go_at_call 29; (with_reducible refine (Hm1 _).mono ?_); rintro e x2 ⟨rfl, hb⟩)
    refine hK.out _ _ (by (first | with_reducible assumption | with_reducible exact Bx6.below (by with_reducible assumption) (by with_reducible assumption) | with_reducible exact Bx6.alloc (by with_reducible assumption) _)) (fun hHeld => ?_)
    clear hK K
    try simp only [List.setIfInBounds_toArray, List.set_cons_zero, List.set_cons_succ]
    exact wpAnyH_listed (by kernel_rfl) (HN0.out _ _ _ _ (by with_reducible assumption) _ _ (hp0.below hb) _ _ (hp1.below hb))
  · go_simp
    refine hK.out _ _ (by (first | with_reducible assumption | with_reducible exact Bx6.below (by with_reducible assumption) (by with_reducible assumption) | with_reducible exact Bx6.alloc (by with_reducible assumption) _)) (fun hHeld => ?_)
    clear hK K
    try simp only [List.setIfInBounds_toArray, List.set_cons_zero, List.set_cons_succ]
    exact wpAnyH_listed (by kernel_rfl) (HN1.out _ _ _ _ (by with_reducible assumption) _ _ (hp0.alloc _) _ _ (hp1.alloc _) _ (Blk.new _ _ _) hltw (hp0.off_size (Nat.le_refl _)) (hp1.off_size (Nat.le_refl _)))
set_option maxRecDepth 1000000 in
set_option maxHeartbeats 8000000 in
theorem rd2_1_0 (w : World) (v0 v1 : Value) (a b c d e f : Nat) (A C : List Pr) (m : Ms) (Htb0 : ∀ wr, Bx6 w a b c d e f wr → Calls Tryz.prog 39 #[v0, .int .i64 12] wr (MOut wr A)) (Htb1 : ∀ wr, Bx6 w a b c d e f wr → Calls Tryz.prog 39 #[v1, .int .i64 12] wr (MOut wr C)) (Hm1 : ∀ wr, Calls Tryz.prog 29 #[.agg #[.int .u8 a, .int .u8 b, .int .u8 c, .int .u8 d, .int .u8 e, .int .u8 f]] wr fun e w' => e = .returned (msgV m) ∧ Below wr.heap.size wr w') (s2 s3 s4 s11 s12 s13 s14 s15 s16 s17 s24 s25 s26 s27 s28 s29 s30 s31 s32 s33 s34 s35 s36 s37 s38 s39 s40 s41 s42 s43 s44 s45 s46 s47 s48 s49 s50 s51 s52 s53 s54 s55 s56 s57 s58 s59 s60 s61 s62 s63 s64 s65 s66 s67 s68 : Value) (Q : Exit → Act → World → Prop) (hQ : ∀ (u18 u19 u20 u21 u22 u23 : Value) (p0 : Option Addr) (c0 : Nat) (p1 : Option Addr) (c1 : Nat) (b10 : Nat) (wx : World), Lw w [(.slice p0 A.length c0, A), (.slice p1 C.length c1, C)] [(b10, m)] [] wx → Q .normal ⟨#[v0, v1, s2, s3, s4, .pointer (some ⟨w.heap.size, 0, none⟩), .bool false, .bool true, .slice p0 A.length c0, .slice p1 C.length c1, .pointer (some ⟨b10, 0, none⟩), s11, s12, s13, s14, s15, s16, s17, u18, u19, u20, u21, u22, u23, s24, s25, s26, s27, s28, s29, s30, s31, s32, s33, s34, s35, s36, s37, s38, s39, s40, s41, s42, s43, s44, s45, s46, s47, s48, s49, s50, s51, s52, s53, s54, s55, s56, s57, s58, s59, s60, s61, s62, s63, s64, s65, s66, s67, s68], []⟩ wx)
    (s8 s9 s21 s23 : Value) (wx : World) (hHeld : Bx6 w a b c d e f wx) (p0 : Option Addr) (c0 : Nat) (hp0 : IsPairs wx (.slice p0 A.length c0) A) (b10 : Nat) (hz0 : Blk wx b10 47 #[.int .i64 0, .string ⟨#[]⟩, .string ⟨#[]⟩, .string ⟨#[]⟩, .string ⟨#[]⟩, .string ⟨#[]⟩, .string ⟨#[]⟩, .int .i64 0]) (hl0 : w.heap.size < b10) (ho0_0 : OffB b10 p0 A) :
    wpAnyH Tryz.prog .any (codeOps rd2R) (NoPanic Q) (fun wr => Bx6 w a b c d e f wr) 5 #[true, true, true, false, true, false, true, false, false, false] ⟨#[v0, v1, s2, s3, s4, .pointer (some ⟨w.heap.size, 0, none⟩), .bool false, .bool true, s8, s9, .pointer (some ⟨b10, 0, none⟩), s11, s12, s13, s14, s15, s16, s17, v0, .slice p0 A.length c0, v1, s21, .agg #[.int .u8 a, .int .u8 b, .int .u8 c, .int .u8 d, .int .u8 e, .int .u8 f], s23, s24, s25, s26, s27, s28, s29, s30, s31, s32, s33, s34, s35, s36, s37, s38, s39, s40, s41, s42, s43, s44, s45, s46, s47, s48, s49, s50, s51, s52, s53, s54, s55, s56, s57, s58, s59, s60, s61, s62, s63, s64, s65, s66, s67, s68], []⟩ wx := by
  have HN0 := Lib.hid (rd2_2_0 w v0 v1 a b c d e f A C m Htb0 Htb1 Hm1 s2 s3 s4 s11 s12 s13 s14 s15 s16 s17 s24 s25 s26 s27 s28 s29 s30 s31 s32 s33 s34 s35 s36 s37 s38 s39 s40 s41 s42 s43 s44 s45 s46 s47 s48 s49 s50 s51 s52 s53 s54 s55 s56 s57 s58 s59 s60 s61 s62 s63 s64 s65 s66 s67 s68 Q hQ)
  clear hQ
  have hltw := hHeld.b.lt
  conv => arg 3; arg 1; whnf
  dsimp only [codeOps]
  refine wpAnyH_ready (rs := [3]) (by kernel_rfl) (by simp) ?_
  refine AllReadyH.cons (o := _) rfl (fun K hK => ?_) AllReadyH.nil
  · go_simp
    (go_at_call 39; (with_reducible refine (Htb1 _ hHeld).mono ?_); rintro e x2 ⟨p1, c1, rfl, hp1, ho, hb⟩)
    refine hK.out _ _ (by (first | with_reducible assumption | with_reducible exact Bx6.below (by with_reducible assumption) (by with_reducible assumption) | with_reducible exact Bx6.alloc (by with_reducible assumption) _)) (fun hHeld => ?_)
    clear hK K
    try simp only [List.setIfInBounds_toArray, List.set_cons_zero, List.set_cons_succ]
    exact wpAnyH_listed (by kernel_rfl) (HN0.out _ _ _ _ (by with_reducible assumption) _ _ (hp0.below hb) _ _ hp1 _ (hz0.below hb hz0.lt) hl0 ho0_0 (ho _ hz0.lt))
set_option maxRecDepth 1000000 in
set_option maxHeartbeats 8000000 in
theorem rd2_1_n (w : World) (v0 v1 : Value) (a b c d e f : Nat) (A C : List Pr) (m : Ms) (Htb0 : ∀ wr, Bx6 w a b c d e f wr → Calls Tryz.prog 39 #[v0, .int .i64 12] wr (MOut wr A)) (Htb1 : ∀ wr, Bx6 w a b c d e f wr → Calls Tryz.prog 39 #[v1, .int .i64 12] wr (MOut wr C)) (Hm1 : ∀ wr, Calls Tryz.prog 29 #[.agg #[.int .u8 a, .int .u8 b, .int .u8 c, .int .u8 d, .int .u8 e, .int .u8 f]] wr fun e w' => e = .returned (msgV m) ∧ Below wr.heap.size wr w') (s2 s3 s4 s11 s12 s13 s14 s15 s16 s17 s24 s25 s26 s27 s28 s29 s30 s31 s32 s33 s34 s35 s36 s37 s38 s39 s40 s41 s42 s43 s44 s45 s46 s47 s48 s49 s50 s51 s52 s53 s54 s55 s56 s57 s58 s59 s60 s61 s62 s63 s64 s65 s66 s67 s68 : Value) (Q : Exit → Act → World → Prop) (hQ : ∀ (u18 u19 u20 u21 u22 u23 : Value) (p0 : Option Addr) (c0 : Nat) (p1 : Option Addr) (c1 : Nat) (b10 : Nat) (wx : World), Lw w [(.slice p0 A.length c0, A), (.slice p1 C.length c1, C)] [(b10, m)] [] wx → Q .normal ⟨#[v0, v1, s2, s3, s4, .pointer (some ⟨w.heap.size, 0, none⟩), .bool false, .bool true, .slice p0 A.length c0, .slice p1 C.length c1, .pointer (some ⟨b10, 0, none⟩), s11, s12, s13, s14, s15, s16, s17, u18, u19, u20, u21, u22, u23, s24, s25, s26, s27, s28, s29, s30, s31, s32, s33, s34, s35, s36, s37, s38, s39, s40, s41, s42, s43, s44, s45, s46, s47, s48, s49, s50, s51, s52, s53, s54, s55, s56, s57, s58, s59, s60, s61, s62, s63, s64, s65, s66, s67, s68], []⟩ wx)
    (s8 s9 s10 s21 s23 : Value) (wx : World) (hHeld : Bx6 w a b c d e f wx) (p0 : Option Addr) (c0 : Nat) (hp0 : IsPairs wx (.slice p0 A.length c0) A) :
    wpAnyH Tryz.prog .any (codeOps rd2R) (NoPanic Q) (fun wr => Bx6 w a b c d e f wr) 6 #[true, true, true, false, true, false, false, false, false, false] ⟨#[v0, v1, s2, s3, s4, .pointer (some ⟨w.heap.size, 0, none⟩), .bool false, .bool true, s8, s9, s10, s11, s12, s13, s14, s15, s16, s17, v0, .slice p0 A.length c0, v1, s21, .agg #[.int .u8 a, .int .u8 b, .int .u8 c, .int .u8 d, .int .u8 e, .int .u8 f], s23, s24, s25, s26, s27, s28, s29, s30, s31, s32, s33, s34, s35, s36, s37, s38, s39, s40, s41, s42, s43, s44, s45, s46, s47, s48, s49, s50, s51, s52, s53, s54, s55, s56, s57, s58, s59, s60, s61, s62, s63, s64, s65, s66, s67, s68], []⟩ wx := by
  have HN0 := Lib.hid (rd2_2_n w v0 v1 a b c d e f A C m Htb0 Htb1 Hm1 s2 s3 s4 s11 s12 s13 s14 s15 s16 s17 s24 s25 s26 s27 s28 s29 s30 s31 s32 s33 s34 s35 s36 s37 s38 s39 s40 s41 s42 s43 s44 s45 s46 s47 s48 s49 s50 s51 s52 s53 s54 s55 s56 s57 s58 s59 s60 s61 s62 s63 s64 s65 s66 s67 s68 Q hQ)
  have HN1 := Lib.hid (rd2_1_0 w v0 v1 a b c d e f A C m Htb0 Htb1 Hm1 s2 s3 s4 s11 s12 s13 s14 s15 s16 s17 s24 s25 s26 s27 s28 s29 s30 s31 s32 s33 s34 s35 s36 s37 s38 s39 s40 s41 s42 s43 s44 s45 s46 s47 s48 s49 s50 s51 s52 s53 s54 s55 s56 s57 s58 s59 s60 s61 s62 s63 s64 s65 s66 s67 s68 Q hQ)
  clear hQ
  have hltw := hHeld.b.lt
  conv => arg 3; arg 1; whnf
  dsimp only [codeOps]
  refine wpAnyH_ready (rs := [3, 6]) (by kernel_rfl) (by simp) ?_
  refine AllReadyH.cons (o := _) rfl (fun K hK => ?_) (AllReadyH.cons (o := _) rfl (fun K hK => ?_) AllReadyH.nil)
  · go_simp
    (go_at_call 39; (with_reducible refine (Htb1 _ hHeld).mono ?_); rintro e x2 ⟨p1, c1, rfl, hp1, ho, hb⟩)
    refine hK.out _ _ (by (first | with_reducible assumption | with_reducible exact Bx6.below (by with_reducible assumption) (by with_reducible assumption) | with_reducible exact Bx6.alloc (by with_reducible assumption) _)) (fun hHeld => ?_)
    clear hK K
    try simp only [List.setIfInBounds_toArray, List.set_cons_zero, List.set_cons_succ]
    exact wpAnyH_listed (by kernel_rfl) (HN0.out _ _ _ _ _ (by with_reducible assumption) _ _ (hp0.below hb) _ _ hp1)
  · go_simp
    refine hK.out _ _ (by (first | with_reducible assumption | with_reducible exact Bx6.below (by with_reducible assumption) (by with_reducible assumption) | with_reducible exact Bx6.alloc (by with_reducible assumption) _)) (fun hHeld => ?_)
    clear hK K
    try simp only [List.setIfInBounds_toArray, List.set_cons_zero, List.set_cons_succ]
    exact wpAnyH_listed (by kernel_rfl) (HN1.out _ _ _ _ _ (by with_reducible assumption) _ _ (hp0.alloc _) _ (Blk.new _ _ _) hltw (hp0.off_size (Nat.le_refl _)))
set_option maxRecDepth 1000000 in
set_option maxHeartbeats 8000000 in
theorem rd2_0_0 (w : World) (v0 v1 : Value) (a b c d e f : Nat) (A C : List Pr) (m : Ms) (Htb0 : ∀ wr, Bx6 w a b c d e f wr → Calls Tryz.prog 39 #[v0, .int .i64 12] wr (MOut wr A)) (Htb1 : ∀ wr, Bx6 w a b c d e f wr → Calls Tryz.prog 39 #[v1, .int .i64 12] wr (MOut wr C)) (Hm1 : ∀ wr, Calls Tryz.prog 29 #[.agg #[.int .u8 a, .int .u8 b, .int .u8 c, .int .u8 d, .int .u8 e, .int .u8 f]] wr fun e w' => e = .returned (msgV m) ∧ Below wr.heap.size wr w') (s2 s3 s4 s11 s12 s13 s14 s15 s16 s17 s24 s25 s26 s27 s28 s29 s30 s31 s32 s33 s34 s35 s36 s37 s38 s39 s40 s41 s42 s43 s44 s45 s46 s47 s48 s49 s50 s51 s52 s53 s54 s55 s56 s57 s58 s59 s60 s61 s62 s63 s64 s65 s66 s67 s68 : Value) (Q : Exit → Act → World → Prop) (hQ : ∀ (u18 u19 u20 u21 u22 u23 : Value) (p0 : Option Addr) (c0 : Nat) (p1 : Option Addr) (c1 : Nat) (b10 : Nat) (wx : World), Lw w [(.slice p0 A.length c0, A), (.slice p1 C.length c1, C)] [(b10, m)] [] wx → Q .normal ⟨#[v0, v1, s2, s3, s4, .pointer (some ⟨w.heap.size, 0, none⟩), .bool false, .bool true, .slice p0 A.length c0, .slice p1 C.length c1, .pointer (some ⟨b10, 0, none⟩), s11, s12, s13, s14, s15, s16, s17, u18, u19, u20, u21, u22, u23, s24, s25, s26, s27, s28, s29, s30, s31, s32, s33, s34, s35, s36, s37, s38, s39, s40, s41, s42, s43, s44, s45, s46, s47, s48, s49, s50, s51, s52, s53, s54, s55, s56, s57, s58, s59, s60, s61, s62, s63, s64, s65, s66, s67, s68], []⟩ wx)
    (s8 s9 s19 s21 s23 : Value) (wx : World) (hHeld : Bx6 w a b c d e f wx) (b10 : Nat) (hz0 : Blk wx b10 47 #[.int .i64 0, .string ⟨#[]⟩, .string ⟨#[]⟩, .string ⟨#[]⟩, .string ⟨#[]⟩, .string ⟨#[]⟩, .string ⟨#[]⟩, .int .i64 0]) (hl0 : w.heap.size < b10) :
    wpAnyH Tryz.prog .any (codeOps rd2R) (NoPanic Q) (fun wr => Bx6 w a b c d e f wr) 6 #[true, false, true, false, true, false, true, false, false, false] ⟨#[v0, v1, s2, s3, s4, .pointer (some ⟨w.heap.size, 0, none⟩), .bool false, .bool true, s8, s9, .pointer (some ⟨b10, 0, none⟩), s11, s12, s13, s14, s15, s16, s17, v0, s19, v1, s21, .agg #[.int .u8 a, .int .u8 b, .int .u8 c, .int .u8 d, .int .u8 e, .int .u8 f], s23, s24, s25, s26, s27, s28, s29, s30, s31, s32, s33, s34, s35, s36, s37, s38, s39, s40, s41, s42, s43, s44, s45, s46, s47, s48, s49, s50, s51, s52, s53, s54, s55, s56, s57, s58, s59, s60, s61, s62, s63, s64, s65, s66, s67, s68], []⟩ wx := by
  have HN0 := Lib.hid (rd2_1_0 w v0 v1 a b c d e f A C m Htb0 Htb1 Hm1 s2 s3 s4 s11 s12 s13 s14 s15 s16 s17 s24 s25 s26 s27 s28 s29 s30 s31 s32 s33 s34 s35 s36 s37 s38 s39 s40 s41 s42 s43 s44 s45 s46 s47 s48 s49 s50 s51 s52 s53 s54 s55 s56 s57 s58 s59 s60 s61 s62 s63 s64 s65 s66 s67 s68 Q hQ)
  clear hQ
  have hltw := hHeld.b.lt
  conv => arg 3; arg 1; whnf
  dsimp only [codeOps]
  refine wpAnyH_ready (rs := [1]) (by kernel_rfl) (by simp) ?_
  refine AllReadyH.cons (o := _) rfl (fun K hK => ?_) AllReadyH.nil
  · go_simp
    (go_at_call 39; (with_reducible refine (Htb0 _ hHeld).mono ?_); rintro e x2 ⟨p0, c0, rfl, hp0, ho, hb⟩)
    refine hK.out _ _ (by (first | with_reducible assumption | with_reducible exact Bx6.below (by with_reducible assumption) (by with_reducible assumption) | with_reducible exact Bx6.alloc (by with_reducible assumption) _)) (fun hHeld => ?_)
    clear hK K
    try simp only [List.setIfInBounds_toArray, List.set_cons_zero, List.set_cons_succ]
    exact wpAnyH_listed (by kernel_rfl) (HN0.out _ _ _ _ _ (by with_reducible assumption) _ _ hp0 _ (hz0.below hb hz0.lt) hl0 (ho _ hz0.lt))
set_option maxRecDepth 1000000 in
set_option maxHeartbeats 8000000 in
theorem rd2_0_n (w : World) (v0 v1 : Value) (a b c d e f : Nat) (A C : List Pr) (m : Ms) (Htb0 : ∀ wr, Bx6 w a b c d e f wr → Calls Tryz.prog 39 #[v0, .int .i64 12] wr (MOut wr A)) (Htb1 : ∀ wr, Bx6 w a b c d e f wr → Calls Tryz.prog 39 #[v1, .int .i64 12] wr (MOut wr C)) (Hm1 : ∀ wr, Calls Tryz.prog 29 #[.agg #[.int .u8 a, .int .u8 b, .int .u8 c, .int .u8 d, .int .u8 e, .int .u8 f]] wr fun e w' => e = .returned (msgV m) ∧ Below wr.heap.size wr w') (s2 s3 s4 s11 s12 s13 s14 s15 s16 s17 s24 s25 s26 s27 s28 s29 s30 s31 s32 s33 s34 s35 s36 s37 s38 s39 s40 s41 s42 s43 s44 s45 s46 s47 s48 s49 s50 s51 s52 s53 s54 s55 s56 s57 s58 s59 s60 s61 s62 s63 s64 s65 s66 s67 s68 : Value) (Q : Exit → Act → World → Prop) (hQ : ∀ (u18 u19 u20 u21 u22 u23 : Value) (p0 : Option Addr) (c0 : Nat) (p1 : Option Addr) (c1 : Nat) (b10 : Nat) (wx : World), Lw w [(.slice p0 A.length c0, A), (.slice p1 C.length c1, C)] [(b10, m)] [] wx → Q .normal ⟨#[v0, v1, s2, s3, s4, .pointer (some ⟨w.heap.size, 0, none⟩), .bool false, .bool true, .slice p0 A.length c0, .slice p1 C.length c1, .pointer (some ⟨b10, 0, none⟩), s11, s12, s13, s14, s15, s16, s17, u18, u19, u20, u21, u22, u23, s24, s25, s26, s27, s28, s29, s30, s31, s32, s33, s34, s35, s36, s37, s38, s39, s40, s41, s42, s43, s44, s45, s46, s47, s48, s49, s50, s51, s52, s53, s54, s55, s56, s57, s58, s59, s60, s61, s62, s63, s64, s65, s66, s67, s68], []⟩ wx)
    (s8 s9 s10 s19 s21 s23 : Value) (wx : World) (hHeld : Bx6 w a b c d e f wx)  :
    wpAnyH Tryz.prog .any (codeOps rd2R) (NoPanic Q) (fun wr => Bx6 w a b c d e f wr) 7 #[true, false, true, false, true, false, false, false, false, false] ⟨#[v0, v1, s2, s3, s4, .pointer (some ⟨w.heap.size, 0, none⟩), .bool false, .bool true, s8, s9, s10, s11, s12, s13, s14, s15, s16, s17, v0, s19, v1, s21, .agg #[.int .u8 a, .int .u8 b, .int .u8 c, .int .u8 d, .int .u8 e, .int .u8 f], s23, s24, s25, s26, s27, s28, s29, s30, s31, s32, s33, s34, s35, s36, s37, s38, s39, s40, s41, s42, s43, s44, s45, s46, s47, s48, s49, s50, s51, s52, s53, s54, s55, s56, s57, s58, s59, s60, s61, s62, s63, s64, s65, s66, s67, s68], []⟩ wx := by
  have HN0 := Lib.hid (rd2_1_n w v0 v1 a b c d e f A C m Htb0 Htb1 Hm1 s2 s3 s4 s11 s12 s13 s14 s15 s16 s17 s24 s25 s26 s27 s28 s29 s30 s31 s32 s33 s34 s35 s36 s37 s38 s39 s40 s41 s42 s43 s44 s45 s46 s47 s48 s49 s50 s51 s52 s53 s54 s55 s56 s57 s58 s59 s60 s61 s62 s63 s64 s65 s66 s67 s68 Q hQ)
  have HN1 := Lib.hid (rd2_0_0 w v0 v1 a b c d e f A C m Htb0 Htb1 Hm1 s2 s3 s4 s11 s12 s13 s14 s15 s16 s17 s24 s25 s26 s27 s28 s29 s30 s31 s32 s33 s34 s35 s36 s37 s38 s39 s40 s41 s42 s43 s44 s45 s46 s47 s48 s49 s50 s51 s52 s53 s54 s55 s56 s57 s58 s59 s60 s61 s62 s63 s64 s65 s66 s67 s68 Q hQ)
  clear hQ
  have hltw := hHeld.b.lt
  conv => arg 3; arg 1; whnf
  dsimp only [codeOps]
  refine wpAnyH_ready (rs := [1, 6]) (by kernel_rfl) (by simp) ?_
  refine AllReadyH.cons (o := _) rfl (fun K hK => ?_) (AllReadyH.cons (o := _) rfl (fun K hK => ?_) AllReadyH.nil)
  · go_simp
    (go_at_call 39; (with_reducible refine (Htb0 _ hHeld).mono ?_); rintro e x2 ⟨p0, c0, rfl, hp0, ho, hb⟩)
    refine hK.out _ _ (by (first | with_reducible assumption | with_reducible exact Bx6.below (by with_reducible assumption) (by with_reducible assumption) | with_reducible exact Bx6.alloc (by with_reducible assumption) _)) (fun hHeld => ?_)
    clear hK K
    try simp only [List.setIfInBounds_toArray, List.set_cons_zero, List.set_cons_succ]
    exact wpAnyH_listed (by kernel_rfl) (HN0.out _ _ _ _ _ _ (by with_reducible assumption) _ _ hp0)
  · go_simp
    refine hK.out _ _ (by (first | with_reducible assumption | with_reducible exact Bx6.below (by with_reducible assumption) (by with_reducible assumption) | with_reducible exact Bx6.alloc (by with_reducible assumption) _)) (fun hHeld => ?_)
    clear hK K
    try simp only [List.setIfInBounds_toArray, List.set_cons_zero, List.set_cons_succ]
    exact wpAnyH_listed (by kernel_rfl) (HN1.out _ _ _ _ _ _ (by with_reducible assumption) _ (Blk.new _ _ _) hltw)
set_option maxRecDepth 1000000 in
set_option maxHeartbeats 8000000 in
theorem rd2_s (w : World) (v0 v1 : Value) (a b c d e f : Nat) (A C : List Pr) (m : Ms) (Htb0 : ∀ wr, Bx6 w a b c d e f wr → Calls Tryz.prog 39 #[v0, .int .i64 12] wr (MOut wr A)) (Htb1 : ∀ wr, Bx6 w a b c d e f wr → Calls Tryz.prog 39 #[v1, .int .i64 12] wr (MOut wr C)) (Hm1 : ∀ wr, Calls Tryz.prog 29 #[.agg #[.int .u8 a, .int .u8 b, .int .u8 c, .int .u8 d, .int .u8 e, .int .u8 f]] wr fun e w' => e = .returned (msgV m) ∧ Below wr.heap.size wr w') (s2 s3 s4 s11 s12 s13 s14 s15 s16 s17 s24 s25 s26 s27 s28 s29 s30 s31 s32 s33 s34 s35 s36 s37 s38 s39 s40 s41 s42 s43 s44 s45 s46 s47 s48 s49 s50 s51 s52 s53 s54 s55 s56 s57 s58 s59 s60 s61 s62 s63 s64 s65 s66 s67 s68 : Value) (Q : Exit → Act → World → Prop) (hQ : ∀ (u18 u19 u20 u21 u22 u23 : Value) (p0 : Option Addr) (c0 : Nat) (p1 : Option Addr) (c1 : Nat) (b10 : Nat) (wx : World), Lw w [(.slice p0 A.length c0, A), (.slice p1 C.length c1, C)] [(b10, m)] [] wx → Q .normal ⟨#[v0, v1, s2, s3, s4, .pointer (some ⟨w.heap.size, 0, none⟩), .bool false, .bool true, .slice p0 A.length c0, .slice p1 C.length c1, .pointer (some ⟨b10, 0, none⟩), s11, s12, s13, s14, s15, s16, s17, u18, u19, u20, u21, u22, u23, s24, s25, s26, s27, s28, s29, s30, s31, s32, s33, s34, s35, s36, s37, s38, s39, s40, s41, s42, s43, s44, s45, s46, s47, s48, s49, s50, s51, s52, s53, s54, s55, s56, s57, s58, s59, s60, s61, s62, s63, s64, s65, s66, s67, s68], []⟩ wx)
    (s8 s9 s10 s18 s19 s20 s21 s22 s23 : Value) (wx : World) (hHeld : Bx6 w a b c d e f wx)  :
    wpAnyH Tryz.prog .any (codeOps rd2R) (NoPanic Q) (fun wr => Bx6 w a b c d e f wr) 10 #[false, false, false, false, false, false, false, false, false, false] ⟨#[v0, v1, s2, s3, s4, .pointer (some ⟨w.heap.size, 0, none⟩), .bool false, .bool true, s8, s9, s10, s11, s12, s13, s14, s15, s16, s17, s18, s19, s20, s21, s22, s23, s24, s25, s26, s27, s28, s29, s30, s31, s32, s33, s34, s35, s36, s37, s38, s39, s40, s41, s42, s43, s44, s45, s46, s47, s48, s49, s50, s51, s52, s53, s54, s55, s56, s57, s58, s59, s60, s61, s62, s63, s64, s65, s66, s67, s68], []⟩ wx := by
  have HN0 := Lib.hid (rd2_0_n w v0 v1 a b c d e f A C m Htb0 Htb1 Hm1 s2 s3 s4 s11 s12 s13 s14 s15 s16 s17 s24 s25 s26 s27 s28 s29 s30 s31 s32 s33 s34 s35 s36 s37 s38 s39 s40 s41 s42 s43 s44 s45 s46 s47 s48 s49 s50 s51 s52 s53 s54 s55 s56 s57 s58 s59 s60 s61 s62 s63 s64 s65 s66 s67 s68 Q hQ)
  clear hQ
  conv => arg 3; arg 1; whnf
  dsimp only [codeOps]
  have q0 : ∀ wr, Bx6 w a b c d e f wr → wr.cell? ⟨w.heap.size, 0, none⟩ = some (.int .u8 a) := fun wr h => h.b.c0 0 _ rfl
  have q1 : ∀ wr, Bx6 w a b c d e f wr → wr.cell? ⟨w.heap.size, 1, none⟩ = some (.int .u8 b) := fun wr h => h.b.c0 1 _ rfl
  have q2 : ∀ wr, Bx6 w a b c d e f wr → wr.cell? ⟨w.heap.size, 2, none⟩ = some (.int .u8 c) := fun wr h => h.b.c0 2 _ rfl
  have q3 : ∀ wr, Bx6 w a b c d e f wr → wr.cell? ⟨w.heap.size, 3, none⟩ = some (.int .u8 d) := fun wr h => h.b.c0 3 _ rfl
  have q4 : ∀ wr, Bx6 w a b c d e f wr → wr.cell? ⟨w.heap.size, 4, none⟩ = some (.int .u8 e) := fun wr h => h.b.c0 4 _ rfl
  have q5 : ∀ wr, Bx6 w a b c d e f wr → wr.cell? ⟨w.heap.size, 5, none⟩ = some (.int .u8 f) := fun wr h => h.b.c0 5 _ rfl
  refine wpAnyH_take (i := 0) (oi := _) (v := ?_) rfl (by kernel_rfl) (by kernel_rfl) (by kernel_rfl) (fun _ _ _ h => h) (Or.inl ⟨by rfl, ?_⟩) (by with_reducible assumption) ?_
  rotate_left
  · intro wt hSw
    go_simp
    all_goals with_reducible rfl
  try simp only [Act.put, List.setIfInBounds_toArray, List.set_cons_zero]
  refine wpAnyH_take (i := 2) (oi := _) (v := ?_) rfl (by kernel_rfl) (by kernel_rfl) (by kernel_rfl) (fun _ _ _ h => h) (Or.inl ⟨by rfl, ?_⟩) (by with_reducible assumption) ?_
  rotate_left
  · intro wt hSw
    go_simp
    all_goals with_reducible rfl
  try simp only [Act.put, List.setIfInBounds_toArray, List.set_cons_zero, List.set_cons_succ]
  refine wpAnyH_take (i := 4) (oi := _) (v := ?_) rfl (by kernel_rfl) (by kernel_rfl) (by kernel_rfl) (fun _ _ _ h => h) (Or.inl ⟨by rfl, ?_⟩) (by with_reducible assumption) ?_
  rotate_left
  · intro wt hSw
    go_simp
    all_goals with_reducible rfl
  try simp only [Act.put, List.setIfInBounds_toArray, List.set_cons_zero, List.set_cons_succ]
  exact wpAnyH_listed (by kernel_rfl) (HN0.out _ _ _ _ _ _ _ (by with_reducible assumption))
set_option maxRecDepth 1000000 in
set_option maxHeartbeats 8000000 in
theorem rd2_w (w : World) (v0 v1 : Value) (a b c d e f : Nat) (A C : List Pr) (m : Ms) (Htb0 : ∀ wr, Bx6 w a b c d e f wr → Calls Tryz.prog 39 #[v0, .int .i64 12] wr (MOut wr A)) (Htb1 : ∀ wr, Bx6 w a b c d e f wr → Calls Tryz.prog 39 #[v1, .int .i64 12] wr (MOut wr C)) (Hm1 : ∀ wr, Calls Tryz.prog 29 #[.agg #[.int .u8 a, .int .u8 b, .int .u8 c, .int .u8 d, .int .u8 e, .int .u8 f]] wr fun e w' => e = .returned (msgV m) ∧ Below wr.heap.size wr w') (wa : World) (hS : Bx6 w a b c d e f wa) (s2 s3 s4 s8 s9 s10 s11 s12 s13 s14 s15 s16 s17 s18 s19 s20 s21 s22 s23 s24 s25 s26 s27 s28 s29 s30 s31 s32 s33 s34 s35 s36 s37 s38 s39 s40 s41 s42 s43 s44 s45 s46 s47 s48 s49 s50 s51 s52 s53 s54 s55 s56 s57 s58 s59 s60 s61 s62 s63 s64 s65 s66 s67 s68 : Value) (Q : Exit → Act → World → Prop)
    (hQ : ∀ (u18 u19 u20 u21 u22 u23 : Value) (p0 : Option Addr) (c0 : Nat) (p1 : Option Addr) (c1 : Nat) (b10 : Nat) (wx : World), Lw w [(.slice p0 A.length c0, A), (.slice p1 C.length c1, C)] [(b10, m)] [] wx → Q .normal ⟨#[v0, v1, s2, s3, s4, .pointer (some ⟨w.heap.size, 0, none⟩), .bool false, .bool true, .slice p0 A.length c0, .slice p1 C.length c1, .pointer (some ⟨b10, 0, none⟩), s11, s12, s13, s14, s15, s16, s17, u18, u19, u20, u21, u22, u23, s24, s25, s26, s27, s28, s29, s30, s31, s32, s33, s34, s35, s36, s37, s38, s39, s40, s41, s42, s43, s44, s45, s46, s47, s48, s49, s50, s51, s52, s53, s54, s55, s56, s57, s58, s59, s60, s61, s62, s63, s64, s65, s66, s67, s68], []⟩ wx) :
    rd2R.wp Tryz.prog Q ⟨#[v0, v1, s2, s3, s4, .pointer (some ⟨w.heap.size, 0, none⟩), .bool false, .bool true, s8, s9, s10, s11, s12, s13, s14, s15, s16, s17, s18, s19, s20, s21, s22, s23, s24, s25, s26, s27, s28, s29, s30, s31, s32, s33, s34, s35, s36, s37, s38, s39, s40, s41, s42, s43, s44, s45, s46, s47, s48, s49, s50, s51, s52, s53, s54, s55, s56, s57, s58, s59, s60, s61, s62, s63, s64, s65, s66, s67, s68], []⟩ wa := by
  have h0 := rd2_s w v0 v1 a b c d e f A C m Htb0 Htb1 Hm1 s2 s3 s4 s11 s12 s13 s14 s15 s16 s17 s24 s25 s26 s27 s28 s29 s30 s31 s32 s33 s34 s35 s36 s37 s38 s39 s40 s41 s42 s43 s44 s45 s46 s47 s48 s49 s50 s51 s52 s53 s54 s55 s56 s57 s58 s59 s60 s61 s62 s63 s64 s65 s66 s67 s68 Q hQ
  conv => arg 2; whnf
  refine wp_region_noPanic ?_
  refine wp_region_held_drew (S := fun wr => Bx6 w a b c d e f wr) (by kernel_rfl) (hS.drew) (fun hHeld => ?_)
  exact wpAnyH_listed (by kernel_rfl) (h0 _ _ _ _ _ _ _ _ _ _ hHeld)

end Go.Proofs.YtaafckefeejjpaaGreat
namespace Go.Proofs.YtaafckefeejjpaaGreat
open Go.RowKit Go.Sort
set_option linter.unusedVariables false

set_option maxRecDepth 1000000 in
set_option maxHeartbeats 8000000 in
theorem msgReads_walk0 (hsan : SanityW) (w : World) (v0 : Value) (l0 : List Rw) (h0 : IsRaws w v0 l0) (v1 : Value) (l1 : List Rw) (h1 : IsRaws w v1 l1) (v2 : Value) (y : R6) (h2 : IsRaw6 w v2 y) :
    Calls Tryz.prog 11 #[v0, v1, v2] w fun e w' => e = .returned (.bool true) ∧ Below w.heap.size w w' := by
  obtain ⟨a, b, c, d, e, f⟩ := y
  obtain ⟨rfl, hsm⟩ := h2
  change Small6 a b c d e f at hsm
  show Calls _ _ #[v0, v1, .agg #[.int .u8 a, .int .u8 b, .int .u8 c, .int .u8 d, .int .u8 e, .int .u8 f]] _ _
  have H0 := Lib.hid h0
  have H1 := Lib.hid h1
  have Hsan := Lib.hid hsan
  have Hm1 : Hid (∀ wx, Calls Tryz.prog 29 #[.agg #[.int .u8 a, .int .u8 b, .int .u8 c, .int .u8 d, .int .u8 e, .int .u8 f]] wx fun e' w' => e' = .returned (msgV (madeM a b c d e f)) ∧ Below wx.heap.size wx w') := Lib.hid (fun wx => made_w a b c d e f wx hsm)
  have Htb0 : Hid (∀ wr, Bx6 w a b c d e f wr → Calls Tryz.prog 39 #[v0, .int .i64 12] wr (MOut wr (tableS l0 12))) := Lib.hid (fun wr h => (table_w v0 l0 12 wr (H0.out.below h.g) (by omega)).mono (fun _ _ hh => OwnOut.mout hh))
  have Htb1 : Hid (∀ wr, Bx6 w a b c d e f wr → Calls Tryz.prog 39 #[v1, .int .i64 12] wr (MOut wr (tableS l1 12))) := Lib.hid (fun wr h => (table_w v1 l1 12 wr (H1.out.below h.g) (by omega)).mono (fun _ _ hh => OwnOut.mout hh))
  have sA := Lib.hid (srt_table l0 12)
  have sC := Lib.hid (srt_table l1 12)
  have nA := table_len l0 12
  have nC := table_len l1 12
  have kA : Hid (∀ x ∈ tableS l0 12, x.1.length ≤ 100000) := Lib.hid (fun x hx => by have := (table_small x hx).1; omega)
  have kC : Hid (∀ x ∈ tableS l1 12, x.1.length ≤ 100000) := Lib.hid (fun x hx => by have := (table_small x hx).1; omega)
  have Zm := Lib.hid (made_size a b c d e f)
  clear h0 h1 hsan hsm
  generalize madeM a b c d e f = m at *
  generalize tableS l0 12 = A at *
  generalize tableS l1 12 = C at *
  go_enter Tryz.func11, Tryz.ntmps11
  go_wp2_with fail
  refine (Hsan.out _).mono ?_
  rintro e1 w1 ⟨rfl, hb1⟩
  have hs1 : Bx6 w a b c d e f w1 := ⟨(Blk.new _ _ _).below hb1 (by simp), (below_box _).trans (hb1.mono (by simp))⟩
  have HS1 := Lib.hid hs1
  clear hb1 hs1
  go_upto_region 2 with fail
  go_cut [8, 9, 10] (fun s8 s9 s10 wx => ∃ p0 c0 p1 c1 b10, s8 = .slice p0 A.length c0 ∧ s9 = .slice p1 C.length c1 ∧ s10 = .pointer (some ⟨b10, 0, none⟩) ∧ Hid (Lw w [(.slice p0 A.length c0, A), (.slice p1 C.length c1, C)] [(b10, m)] [] wx))
  case first =>
    refine rd2_w w v0 v1 a b c d e f A C m Htb0.out Htb1.out Hm1.out w1 HS1.out _ _ _ _ _ _ _ _ _ _ _ _ _ _ _ _ _ _ _ _ _ _ _ _ _ _ _ _ _ _ _ _ _ _ _ _ _ _ _ _ _ _ _ _ _ _ _ _ _ _ _ _ _ _ _ _ _ _ _ _ _ _ _ _ _ (fun u18 u19 u20 u21 u22 u23 p0 c0 p1 c1 b10 wx hL => ?_)
    have HL := Lib.hid hL
    clear hL
    go_wp2_with fail
    go_meet
    exact ⟨p0, c0, p1, c1, b10, rfl, rfl, rfl, HL⟩
  case rest =>
    obtain ⟨p0, c0, p1, c1, b10, rfl, rfl, rfl, HL⟩ := hcut
    clear HS1 Htb0 Htb1 Hm1
    obtain ⟨L, hL⟩ : ∃ L : List (Value × List Pr), L = [(.slice p0 A.length c0, A), (.slice p1 C.length c1, C)] := ⟨_, rfl⟩
    obtain ⟨B, hB⟩ : ∃ B : List (Nat × Ms), B = [(b10, m)] := ⟨_, rfl⟩
    rw [← hL, ← hB] at HL
    have HB := Lib.hid hB
    have HLL := Lib.hid hL
    clear hB hL
    have E1 : Hid (withinS (writesS m) (applyS m A) = withinS (writesS m) (applyS m (unionS (withoutS (readsS m) C) (withinS (readsS m) A)))) := Lib.hid (reads_same sA.out sC.out)
    have E2 : Hid (applyS m A = applyS m (unionS (withoutS (minusS (killsS m) (readsS m)) A) (withinS (minusS (killsS m) (readsS m)) C))) := Lib.hid (kills_same sA.out sC.out)
    have NR := rreads_len m
    have NW := rwrites_len m
    have NK := rkills_len m
    have NO := minus_length (killsS m) (readsS m)
    have Hre : Hid (∀ wr, Lw w L B [] wr → Calls Tryz.prog 40 #[msgV m] wr (LsOut w L B [] wr (readsS m))) := Lib.hid (fun wr h => lw_reads h m Zm.out)
    have Hwr : Hid (∀ wr, Lw w L B [] wr → Calls Tryz.prog 41 #[msgV m] wr (LsOut w L B [] wr (writesS m))) := Lib.hid (fun wr h => lw_writes h m Zm.out)
    have Hki : Hid (∀ wr, Lw w L B [] wr → Calls Tryz.prog 42 #[msgV m] wr (LsOut w L B [] wr (killsS m))) := Lib.hid (fun wr h => lw_kills h m Zm.out)
    generalize readsS m = R at *
    generalize writesS m = W at *
    generalize killsS m = K at *
    go_upto_region 3 with fail
    go_cut [11, 12, 13] (fun s11 s12 s13 wx => ∃ pr cr pw cw pk ck, s11 = .slice pr R.length cr ∧ s12 = .slice pw W.length cw ∧ s13 = .slice pk K.length ck ∧ Hid (Lw w L B [(.slice pr R.length cr, R), (.slice pw W.length cw, W), (.slice pk K.length ck, K)] wx))
    case first =>
      have qm0 : ∀ wr, Lw w L B [] wr → wr.cell? ⟨b10, 0, none⟩ = some (.int .i64 m.kind) := fun wr h => (h.msg (n := b10) (m := m) (by simp [HB.out])).c0 0 _ rfl
      have qm1 : ∀ wr, Lw w L B [] wr → wr.cell? ⟨b10, 1, none⟩ = some (.string (Str m.key)) := fun wr h => (h.msg (n := b10) (m := m) (by simp [HB.out])).c0 1 _ rfl
      have qm2 : ∀ wr, Lw w L B [] wr → wr.cell? ⟨b10, 2, none⟩ = some (.string (Str m.val)) := fun wr h => (h.msg (n := b10) (m := m) (by simp [HB.out])).c0 2 _ rfl
      have qm3 : ∀ wr, Lw w L B [] wr → wr.cell? ⟨b10, 3, none⟩ = some (.string (Str m.lo)) := fun wr h => (h.msg (n := b10) (m := m) (by simp [HB.out])).c0 3 _ rfl
      have qm4 : ∀ wr, Lw w L B [] wr → wr.cell? ⟨b10, 4, none⟩ = some (.string (Str m.hi)) := fun wr h => (h.msg (n := b10) (m := m) (by simp [HB.out])).c0 4 _ rfl
      have qm5 : ∀ wr, Lw w L B [] wr → wr.cell? ⟨b10, 5, none⟩ = some (.string (Str m.src)) := fun wr h => (h.msg (n := b10) (m := m) (by simp [HB.out])).c0 5 _ rfl
      have qm6 : ∀ wr, Lw w L B [] wr → wr.cell? ⟨b10, 6, none⟩ = some (.string (Str m.dst)) := fun wr h => (h.msg (n := b10) (m := m) (by simp [HB.out])).c0 6 _ rfl
      have qm7 : ∀ wr, Lw w L B [] wr → wr.cell? ⟨b10, 7, none⟩ = some (.int .i64 m.n) := fun wr h => (h.msg (n := b10) (m := m) (by simp [HB.out])).c0 7 _ rfl
      go_region_held3 (fun wr => Lw w L B [] wr) (first | with_reducible assumption | with_reducible exact HL.out.drew | with_reducible exact Lw.below (by with_reducible assumption) (by with_reducible assumption))
        (first
          | (go_at_call 40; (with_reducible refine (Hre.out _ (by with_reducible assumption)).mono ?_); rintro e2 x2 ⟨pr, cr, rfl, hr, hbr, hLr⟩)
          | (go_at_call 41; (with_reducible refine (Hwr.out _ (by with_reducible assumption)).mono ?_); rintro e3 x3 ⟨pw, cw, rfl, hw, hbw, hLw⟩; have hr2 := spans_below hbw hr)
          | (go_at_call 42; (with_reducible refine (Hki.out _ (by with_reducible assumption)).mono ?_); rintro e4 x4 ⟨pk, ck, rfl, hk, hbk, hLk⟩; have hr3 := spans_below hbk hr2; have hw3 := spans_below hbk hw)
          | fail "no arm")
      all_goals
        have H4 : Hid (Lw w L B [(.slice pr R.length cr, R), (.slice pw W.length cw, W), (.slice pk K.length ck, K)] x4) := Lib.hid (((hLk.addS hk).addS hw3).addS hr3)
        clear hr hw hk hr2 hr3 hw3 hLr hLw hLk hbr hbw hbk qm0 qm1 qm2 qm3 qm4 qm5 qm6 qm7
        go_wp2_with fail
        go_meet
        exact ⟨pr, cr, pw, cw, pk, ck, rfl, rfl, rfl, H4⟩
    case rest =>
      obtain ⟨pr, cr, pw, cw, pk, ck, rfl, rfl, rfl, HL3⟩ := hcut
      clear HL Hre Hwr Hki
      obtain ⟨S3, hS3⟩ : ∃ S3 : List (Value × List Sp), S3 = [(.slice pr R.length cr, R), (.slice pw W.length cw, W), (.slice pk K.length ck, K)] := ⟨_, rfl⟩
      rw [← hS3] at HL3
      have HS3 := Lib.hid hS3
      clear hS3
      have Hsm : Hid (∀ S wr v u l, Lw w L B S wr → IsPairs wr v l → IsPairs wr u l → Calls Tryz.prog 46 #[v, u] wr (LbOut w L B S wr true)) := Lib.hid (fun S wr v u l h h1 h2 => lw_same_yes h l l h1 h2 rfl)
      have Hwo : Hid (∀ wr, Lw w L B S3 wr → Calls Tryz.prog 44 #[.slice p1 C.length c1, .slice pr R.length cr] wr (LwOut w L B S3 wr (withoutS R C))) := Lib.hid (fun wr h => lw_without h C R (h.at (by simp [HLL.out])) (h.sps (by simp [HS3.out])) (by omega))
      have Hwi : Hid (∀ wr, Lw w L B S3 wr → Calls Tryz.prog 45 #[.slice p0 A.length c0, .slice pr R.length cr] wr (LwOut w L B S3 wr (withinS R A))) := Lib.hid (fun wr h => lw_within h A R (h.at (by simp [HLL.out])) (h.sps (by simp [HS3.out])) (by omega))
      have n1 : (withoutS R C).length ≤ 12 := Nat.le_trans (List.length_filter_le _ _) nC
      have n2 : (withinS R A).length ≤ 12 := Nat.le_trans (List.length_filter_le _ _) nA
      have Hjo : Hid (∀ wr v u, Lw w L B S3 wr → IsPairs wr v (withoutS R C) → IsPairs wr u (withinS R A) → Calls Tryz.prog 43 #[v, u] wr (LwOut w L B S3 wr (unionS (withoutS R C) (withinS R A)))) := Lib.hid (fun wr v u h h1 h2 => lw_join h _ _ h1 h2 (srt_without _ sC.out) (by omega))
      have sU := Lib.hid (srt_union (srt_without R sC.out) (withinS R A))
      have nU : (unionS (withoutS R C) (withinS R A)).length ≤ 24 := by have := union_length (withoutS R C) (withinS R A); omega
      have kU : Hid (∀ x ∈ unionS (withoutS R C) (withinS R A), x.1.length ≤ 100000) := Lib.hid (fun x hx => by
        rcases (mem_union _ (srt_within _ sA.out) x).1 hx with h | ⟨h, _⟩
        · exact kA.out x ((mem_within _ _ _).1 h).1
        · exact kC.out x ((mem_without _ _ _).1 h).1)
      generalize withoutS R C = U1 at *
      generalize withinS R A = U2 at *
      generalize unionS U1 U2 = U at *
      go_wp2_with (first
        | (go_at_call 44; refine (Hwo.out _ HL3.out).mono ?_; rintro e2 x2 ⟨pa, ca, rfl, hpa, hba, hLa⟩; have Hpa := Lib.hid hpa; have HLa := Lib.hid hLa; clear hpa hLa hba)
        | (go_at_call 45; refine (Hwi.out _ HLa.out).mono ?_; rintro e3 x3 ⟨pb, cb, rfl, hpb, hbb, hLb⟩; have Hpa3 := Lib.hid (pairs_below hbb Hpa.out); have Hpb := Lib.hid hpb; have HLb := Lib.hid hLb; clear hpb hLb hbb)
        | (go_at_call 43; refine (Hjo.out _ _ _ HLb.out Hpa3.out Hpb.out).mono ?_; rintro e4 x4 ⟨pu, cu, rfl, hpu, hbu, hLu⟩; have HL4 : Hid (Lw w ((.slice pu U.length cu, U) :: L) B S3 x4) := Lib.hid (hLu.add hpu); clear hpu hLu hbu; clear Hpa3 Hpb Hpa))
      clear HL3 HLa HLb Hwo Hwi Hjo
      obtain ⟨L4, hL4⟩ : ∃ L4 : List (Value × List Pr), L4 = (.slice pu U.length cu, U) :: L := ⟨_, rfl⟩
      rw [← hL4] at HL4
      have HLL4 : Hid (L4 = [(.slice pu U.length cu, U), (.slice p0 A.length c0, A), (.slice p1 C.length c1, C)]) := Lib.hid (by rw [hL4, HLL.out])
      clear hL4
      have Ha0 : Hid (∀ S wr, Lw w L4 B S wr → Calls Tryz.prog 47 #[.slice p0 A.length c0, msgV m] wr (LwOut w L4 B S wr (applyS m A))) := Lib.hid (fun S wr h => lw_apply h m A (h.at (by simp [HLL4.out])) sA.out (by omega) kA.out Zm.out)
      have Ha1 : Hid (∀ S wr, Lw w L4 B S wr → Calls Tryz.prog 47 #[.slice pu U.length cu, msgV m] wr (LwOut w L4 B S wr (applyS m U))) := Lib.hid (fun S wr h => lw_apply h m U (h.at (by simp [HLL4.out])) sU.out (by omega) kU.out Zm.out)
      have l1 : (applyS m A).length ≤ 50000 := by have := apply_len m A; omega
      have l2 : (applyS m U).length ≤ 50000 := by have := apply_len m U; omega
      have Hwi1 : Hid (∀ wr v, Lw w L4 B S3 wr → IsPairs wr v (applyS m A) → Calls Tryz.prog 45 #[v, .slice pw W.length cw] wr (LwOut w L4 B S3 wr (withinS W (applyS m A)))) := Lib.hid (fun wr v h h1 => lw_within h _ W h1 (h.sps (by simp [HS3.out])) l1)
      have Hwi2 : Hid (∀ wr v, Lw w L4 B S3 wr → IsPairs wr v (applyS m U) → Calls Tryz.prog 45 #[v, .slice pw W.length cw] wr (LwOut w L4 B S3 wr (withinS W (applyS m A)))) := Lib.hid (fun wr v h h1 => by rw [E1.out]; exact lw_within h _ W h1 (h.sps (by simp [HS3.out])) l2)
      have Hsm4 : Hid (∀ S wr v u l, Lw w L4 B S wr → IsPairs wr v l → IsPairs wr u l → Calls Tryz.prog 46 #[v, u] wr (LbOut w L4 B S wr true)) := Lib.hid (fun S wr v u l h h1 h2 => lw_same_yes h l l h1 h2 rfl)
      clear E1 l1 l2 Hsm
      generalize hY : withinS W (applyS m A) = Y at *
      clear hY
      go_upto_region 5 with fail
      go_cut [48] (fun s48 wx => s48 = .bool false ∧ Hid (Lw w L4 B S3 wx))
      case first =>
        generalize applyS m A = X1 at *
        generalize applyS m U = X2 at *
        have qm0 : ∀ wr, Lw w L4 B S3 wr → wr.cell? ⟨b10, 0, none⟩ = some (.int .i64 m.kind) := fun wr h => (h.msg (n := b10) (m := m) (by simp [HB.out])).c0 0 _ rfl
        have qm1 : ∀ wr, Lw w L4 B S3 wr → wr.cell? ⟨b10, 1, none⟩ = some (.string (Str m.key)) := fun wr h => (h.msg (n := b10) (m := m) (by simp [HB.out])).c0 1 _ rfl
        have qm2 : ∀ wr, Lw w L4 B S3 wr → wr.cell? ⟨b10, 2, none⟩ = some (.string (Str m.val)) := fun wr h => (h.msg (n := b10) (m := m) (by simp [HB.out])).c0 2 _ rfl
        have qm3 : ∀ wr, Lw w L4 B S3 wr → wr.cell? ⟨b10, 3, none⟩ = some (.string (Str m.lo)) := fun wr h => (h.msg (n := b10) (m := m) (by simp [HB.out])).c0 3 _ rfl
        have qm4 : ∀ wr, Lw w L4 B S3 wr → wr.cell? ⟨b10, 4, none⟩ = some (.string (Str m.hi)) := fun wr h => (h.msg (n := b10) (m := m) (by simp [HB.out])).c0 4 _ rfl
        have qm5 : ∀ wr, Lw w L4 B S3 wr → wr.cell? ⟨b10, 5, none⟩ = some (.string (Str m.src)) := fun wr h => (h.msg (n := b10) (m := m) (by simp [HB.out])).c0 5 _ rfl
        have qm6 : ∀ wr, Lw w L4 B S3 wr → wr.cell? ⟨b10, 6, none⟩ = some (.string (Str m.dst)) := fun wr h => (h.msg (n := b10) (m := m) (by simp [HB.out])).c0 6 _ rfl
        have qm7 : ∀ wr, Lw w L4 B S3 wr → wr.cell? ⟨b10, 7, none⟩ = some (.int .i64 m.n) := fun wr h => (h.msg (n := b10) (m := m) (by simp [HB.out])).c0 7 _ rfl
        go_region_held3 (fun wr => Lw w L4 B S3 wr) (first | with_reducible assumption | with_reducible exact HL4.out.drew | with_reducible exact Lw.below (by with_reducible assumption) (by with_reducible assumption))
          (first
            | (go_at_call 47; (with_reducible refine (Ha0.out _ _ (by with_reducible assumption)).mono ?_); rintro e2 x5 ⟨p5, c5, rfl, hp5, hb5, hL5⟩)
            | (go_at_call 45; (with_reducible refine (Hwi1.out _ _ (by with_reducible assumption) (by with_reducible assumption)).mono ?_); rintro e3 x6 ⟨p6, c6, rfl, hp6, hb6, hL6⟩)
            | (go_at_call 47; (with_reducible refine (Ha1.out _ _ (by with_reducible assumption)).mono ?_); rintro e4 x7 ⟨p7, c7, rfl, hp7, hb7, hL7⟩; have hp67 := pairs_below hb7 hp6)
            | (go_at_call 45; (with_reducible refine (Hwi2.out _ _ (by with_reducible assumption) (by with_reducible assumption)).mono ?_); rintro e5 x8 ⟨p8, c8, rfl, hp8, hb8, hL8⟩; have hp68 := pairs_below hb8 hp67)
            | (go_at_call 46; (with_reducible refine (Hsm4.out _ _ _ _ Y (by with_reducible assumption) (by with_reducible assumption) (by with_reducible assumption)).mono ?_); rintro e6 x9 ⟨rfl, hb9, hL9⟩)
            | fail "no arm")
        all_goals
          have H9 : Hid (Lw w L4 B S3 x9) := Lib.hid (by with_reducible assumption)
          clear qm0 qm1 qm2 qm3 qm4 qm5 qm6 qm7
          go_wp2_with fail
          go_meet
          exact ⟨rfl, H9⟩
      case rest =>
        obtain ⟨rfl, HL5⟩ := hcut
        clear HL4 Hwi1 Hwi2 Ha1
        have Hmi : Hid (∀ wr, Lw w L4 B S3 wr → Calls Tryz.prog 48 #[.slice pk K.length ck, .slice pr R.length cr] wr (LsOut w L4 B S3 wr (minusS K R))) := Lib.hid (fun wr h => lw_minus' h _ _ (h.sps (by simp [HS3.out])) (h.sps (by simp [HS3.out])) (by omega) (by omega))
        generalize minusS K R = O at *
        have Hwo : Hid (∀ wr u, Lw w L4 B S3 wr → IsSpans wr u O → Calls Tryz.prog 44 #[.slice p0 A.length c0, u] wr (LwOut w L4 B S3 wr (withoutS O A))) := Lib.hid (fun wr u h hu => lw_without h A O (h.at (by simp [HLL4.out])) hu (by omega))
        have Hwi : Hid (∀ wr u, Lw w L4 B S3 wr → IsSpans wr u O → Calls Tryz.prog 45 #[.slice p1 C.length c1, u] wr (LwOut w L4 B S3 wr (withinS O C))) := Lib.hid (fun wr u h hu => lw_within h C O (h.at (by simp [HLL4.out])) hu (by omega))
        have n1 : (withoutS O A).length ≤ 12 := Nat.le_trans (List.length_filter_le _ _) nA
        have n2 : (withinS O C).length ≤ 12 := Nat.le_trans (List.length_filter_le _ _) nC
        have Hjo : Hid (∀ wr v u, Lw w L4 B S3 wr → IsPairs wr v (withoutS O A) → IsPairs wr u (withinS O C) → Calls Tryz.prog 43 #[v, u] wr (LwOut w L4 B S3 wr (unionS (withoutS O A) (withinS O C)))) := Lib.hid (fun wr v u h h1 h2 => lw_join h _ _ h1 h2 (srt_without _ sA.out) (by omega))
        have sV := Lib.hid (srt_union (srt_without O sA.out) (withinS O C))
        have nV : (unionS (withoutS O A) (withinS O C)).length ≤ 24 := by have := union_length (withoutS O A) (withinS O C); omega
        have kV : Hid (∀ x ∈ unionS (withoutS O A) (withinS O C), x.1.length ≤ 100000) := Lib.hid (fun x hx => by
          rcases (mem_union _ (srt_within _ sC.out) x).1 hx with h | ⟨h, _⟩
          · exact kC.out x ((mem_within _ _ _).1 h).1
          · exact kA.out x ((mem_without _ _ _).1 h).1)
        generalize withoutS O A = V1 at *
        generalize withinS O C = V2 at *
        generalize unionS V1 V2 = V at *
        go_wp2_with (first
          | (go_at_call 48; refine (Hmi.out _ HL5.out).mono ?_; rintro e2 x2 ⟨po, co, rfl, hpo, hbo, hLo⟩; have Hpo := Lib.hid hpo; have HLo := Lib.hid hLo; clear hpo hLo hbo)
          | (go_at_call 44; refine (Hwo.out _ _ HLo.out Hpo.out).mono ?_; rintro e3 x3 ⟨pa, ca, rfl, hpa, hba, hLa⟩; have Hpo3 := Lib.hid (spans_below hba Hpo.out); have Hpa := Lib.hid hpa; have HLa := Lib.hid hLa; clear hpa hLa hba)
          | (go_at_call 45; refine (Hwi.out _ _ HLa.out Hpo3.out).mono ?_; rintro e4 x4 ⟨pb, cb, rfl, hpb, hbb, hLb⟩; have Hpa3 := Lib.hid (pairs_below hbb Hpa.out); have Hpb := Lib.hid hpb; have HLb := Lib.hid hLb; clear hpb hLb hbb)
          | (go_at_call 43; refine (Hjo.out _ _ _ HLb.out Hpa3.out Hpb.out).mono ?_; rintro e5 x5 ⟨pv, cv, rfl, hpv, hbv, hLv⟩; have HL6 : Hid (Lw w ((.slice pv V.length cv, V) :: L4) B S3 x5) := Lib.hid (hLv.add hpv); clear hpv hLv hbv))
        clear Hmi Hwo Hwi Hjo HLo HLa HLb Hpo Hpo3 Hpa Hpa3 Hpb HL5
        obtain ⟨L6, hL6⟩ : ∃ L6 : List (Value × List Pr), L6 = (.slice pv V.length cv, V) :: L4 := ⟨_, rfl⟩
        rw [← hL6] at HL6
        have HLL6 : Hid (L6 = [(.slice pv V.length cv, V), (.slice pu U.length cu, U), (.slice p0 A.length c0, A), (.slice p1 C.length c1, C)]) := Lib.hid (by rw [hL6, HLL4.out])
        clear hL6
        have Ha3 : Hid (∀ wr, Lw w L6 B S3 wr → Calls Tryz.prog 47 #[.slice p0 A.length c0, msgV m] wr (LwOut w L6 B S3 wr (applyS m A))) := Lib.hid (fun wr h => lw_apply h m A (h.at (by simp [HLL6.out])) sA.out (by omega) kA.out Zm.out)
        have Ha4 : Hid (∀ wr, Lw w L6 B S3 wr → Calls Tryz.prog 47 #[.slice pv V.length cv, msgV m] wr (LwOut w L6 B S3 wr (applyS m A))) := Lib.hid (fun wr h => by rw [E2.out]; exact lw_apply h m V (h.at (by simp [HLL6.out])) sV.out (by omega) kV.out Zm.out)
        have Hsm6 : Hid (∀ S wr v u l, Lw w L6 B S wr → IsPairs wr v l → IsPairs wr u l → Calls Tryz.prog 46 #[v, u] wr (LbOut w L6 B S wr true)) := Lib.hid (fun S wr v u l h h1 h2 => lw_same_yes h l l h1 h2 rfl)
        clear E2 Ha0 Hsm4
        generalize applyS m A = X1 at *
        go_upto_region 9 with fail
        have qm0 : ∀ wr, Lw w L6 B S3 wr → wr.cell? ⟨b10, 0, none⟩ = some (.int .i64 m.kind) := fun wr h => (h.msg (n := b10) (m := m) (by simp [HB.out])).c0 0 _ rfl
        have qm1 : ∀ wr, Lw w L6 B S3 wr → wr.cell? ⟨b10, 1, none⟩ = some (.string (Str m.key)) := fun wr h => (h.msg (n := b10) (m := m) (by simp [HB.out])).c0 1 _ rfl
        have qm2 : ∀ wr, Lw w L6 B S3 wr → wr.cell? ⟨b10, 2, none⟩ = some (.string (Str m.val)) := fun wr h => (h.msg (n := b10) (m := m) (by simp [HB.out])).c0 2 _ rfl
        have qm3 : ∀ wr, Lw w L6 B S3 wr → wr.cell? ⟨b10, 3, none⟩ = some (.string (Str m.lo)) := fun wr h => (h.msg (n := b10) (m := m) (by simp [HB.out])).c0 3 _ rfl
        have qm4 : ∀ wr, Lw w L6 B S3 wr → wr.cell? ⟨b10, 4, none⟩ = some (.string (Str m.hi)) := fun wr h => (h.msg (n := b10) (m := m) (by simp [HB.out])).c0 4 _ rfl
        have qm5 : ∀ wr, Lw w L6 B S3 wr → wr.cell? ⟨b10, 5, none⟩ = some (.string (Str m.src)) := fun wr h => (h.msg (n := b10) (m := m) (by simp [HB.out])).c0 5 _ rfl
        have qm6 : ∀ wr, Lw w L6 B S3 wr → wr.cell? ⟨b10, 6, none⟩ = some (.string (Str m.dst)) := fun wr h => (h.msg (n := b10) (m := m) (by simp [HB.out])).c0 6 _ rfl
        have qm7 : ∀ wr, Lw w L6 B S3 wr → wr.cell? ⟨b10, 7, none⟩ = some (.int .i64 m.n) := fun wr h => (h.msg (n := b10) (m := m) (by simp [HB.out])).c0 7 _ rfl
        go_region_held3 (fun wr => Lw w L6 B S3 wr) (first | with_reducible assumption | with_reducible exact HL6.out.drew | with_reducible exact Lw.below (by with_reducible assumption) (by with_reducible assumption))
          (first
            | (go_at_call 47; (with_reducible refine (Ha3.out _ (by with_reducible assumption)).mono ?_); rintro e2 y5 ⟨p5, c5, rfl, hp5, hb5, hL5⟩)
            | (go_at_call 47; (with_reducible refine (Ha4.out _ (by with_reducible assumption)).mono ?_); rintro e4 y7 ⟨p7, c7, rfl, hp7, hb7, hL7⟩; have hp57 := pairs_below hb7 hp5)
            | (go_at_call 46; (with_reducible refine (Hsm6.out _ _ _ _ X1 (by with_reducible assumption) (by with_reducible assumption) (by with_reducible assumption)).mono ?_); rintro e6 y9 ⟨rfl, hb9, hL9⟩)
            | fail "no arm")
        all_goals
          have Hg := Lib.hid (Lw.g (by with_reducible assumption : Lw w L6 B S3 y9))
          clear qm0 qm1 qm2 qm3 qm4 qm5 qm6 qm7
          go_wp2
          go_ret
          exact ⟨rfl, Hg.out⟩

end Go.Proofs.YtaafckefeejjpaaGreat
