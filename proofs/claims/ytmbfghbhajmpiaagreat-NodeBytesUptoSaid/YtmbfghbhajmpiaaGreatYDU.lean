/-
  Walks: the region of the law NodeBytes that makes both nodes.
-/
import Derived.Test.YtmbfghbhajmpiaaGreatYDF
import Derived.Test.YtmbfghbhajmpiaaGreatYJC
import Derived.Deep.RegionHeld3
namespace Go.Proofs.YtmbfghbhajmpiaaGreat
open Go.RowKit Go.Sort
set_option linter.unusedVariables false

theorem first_put {w1 wx : World} {b8 b9 : Nat} {n m : Nd} {x0 x3 x6 x9 x12 : Option Addr} {x1 x2 x4 x5 x7 x8 x10 x11 x13 x14 : Nat} {y0 y3 y6 y9 y12 : Option Addr} {y1 y2 y4 y5 y7 y8 y10 y11 y13 y14 : Nat} (hne : b8 ≠ b9) (hS : Below w1.heap.size w1 wx) (ge8 : w1.heap.size ≤ b8) (k8 : Blk wx b8 34 #[.slice none 0 0, .slice none 0 0, .slice none 0 0, .slice none 0 0, .slice none 0 0]) (k9 : Blk wx b9 34 #[.slice none 0 0, .slice none 0 0, .slice none 0 0, .slice none 0 0, .slice none 0 0]) (hn : IsNode wx (.agg #[.slice x0 x1 x2, .slice x3 x4 x5, .slice x6 x7 x8, .slice x9 x10 x11, .slice x12 x13 x14]) n) (hm : IsNode wx (.agg #[.slice y0 y1 y2, .slice y3 y4 y5, .slice y6 y7 y8, .slice y9 y10 y11, .slice y12 y13 y14]) m) :
    ∃ wv, wv = st5 wx b8 (.slice x0 x1 x2) (.slice x3 x4 x5) (.slice x6 x7 x8) (.slice x9 x10 x11) (.slice x12 x13 x14) ∧ Below w1.heap.size w1 wv ∧ Blk wv b8 34 #[.slice x0 x1 x2, .slice x3 x4 x5, .slice x6 x7 x8, .slice x9 x10 x11, .slice x12 x13 x14] ∧ Blk wv b9 34 #[.slice none 0 0, .slice none 0 0, .slice none 0 0, .slice none 0 0, .slice none 0 0] ∧ IsNode wv (.agg #[.slice x0 x1 x2, .slice x3 x4 x5, .slice x6 x7 x8, .slice x9 x10 x11, .slice x12 x13 x14]) n ∧ IsNode wv (.agg #[.slice y0 y1 y2, .slice y3 y4 y5, .slice y6 y7 y8, .slice y9 y10 y11, .slice y12 y13 y14]) m :=
  ⟨_, rfl, below_st5 hS ge8, blk_st5 k8, (st5_heap wx b8 b9 _ _ _ _ _ hne.symm).trans k9, node_st5 hn k8, node_st5 hm k8⟩
theorem second_put {w1 wx : World} {b8 b9 : Nat} {n m : Nd} {x0 x3 x6 x9 x12 : Option Addr} {x1 x2 x4 x5 x7 x8 x10 x11 x13 x14 : Nat} {y0 y3 y6 y9 y12 : Option Addr} {y1 y2 y4 y5 y7 y8 y10 y11 y13 y14 : Nat} (hne : b8 ≠ b9) (hS : Below w1.heap.size w1 wx) (ge9 : w1.heap.size ≤ b9) (k8 : Blk wx b8 34 #[.slice x0 x1 x2, .slice x3 x4 x5, .slice x6 x7 x8, .slice x9 x10 x11, .slice x12 x13 x14]) (k9 : Blk wx b9 34 #[.slice none 0 0, .slice none 0 0, .slice none 0 0, .slice none 0 0, .slice none 0 0]) (hn : IsNode wx (.agg #[.slice x0 x1 x2, .slice x3 x4 x5, .slice x6 x7 x8, .slice x9 x10 x11, .slice x12 x13 x14]) n) (hm : IsNode wx (.agg #[.slice y0 y1 y2, .slice y3 y4 y5, .slice y6 y7 y8, .slice y9 y10 y11, .slice y12 y13 y14]) m) :
    ∃ wv, wv = st5 wx b9 (.slice y0 y1 y2) (.slice y3 y4 y5) (.slice y6 y7 y8) (.slice y9 y10 y11) (.slice y12 y13 y14) ∧ Below w1.heap.size w1 wv ∧ Blk wv b8 34 #[.slice x0 x1 x2, .slice x3 x4 x5, .slice x6 x7 x8, .slice x9 x10 x11, .slice x12 x13 x14] ∧ Blk wv b9 34 #[.slice y0 y1 y2, .slice y3 y4 y5, .slice y6 y7 y8, .slice y9 y10 y11, .slice y12 y13 y14] ∧ IsNode wv (.agg #[.slice x0 x1 x2, .slice x3 x4 x5, .slice x6 x7 x8, .slice x9 x10 x11, .slice x12 x13 x14]) n ∧ IsNode wv (.agg #[.slice y0 y1 y2, .slice y3 y4 y5, .slice y6 y7 y8, .slice y9 y10 y11, .slice y12 y13 y14]) m :=
  ⟨_, rfl, below_st5 hS ge9, (st5_heap wx b9 b8 _ _ _ _ _ hne).trans k8, blk_st5 k9, node_st5 hn k9, node_st5 hm k9⟩
noncomputable def regB4 : Code := ((Tryz.f4.body.bind (codeReg 4)).getD .skip)
set_option maxRecDepth 100000 in
set_option maxHeartbeats 16000000 in
theorem regB4_w (w1 : World) (X : Nat) (a0 a1 a2 a3 a4 c0 c1 c2 c3 c4 : Value) (n m : Nd)
    (hX : ∀ wx, Below w1.heap.size w1 wx → Blk wx X 55 #[a0, a1, a2, a3, a4, c0, c1, c2, c3, c4])
    (hA : ∀ wx, Below w1.heap.size w1 wx → Calls Tryz.prog 14 #[.agg #[a0, a1, a2, a3, a4]] wx fun e w' => ∃ v', e = .returned v' ∧ OwnMade w' wx.heap.size v' n ∧ Below wx.heap.size wx w')
    (hB : ∀ wx, Below w1.heap.size w1 wx → Calls Tryz.prog 14 #[.agg #[c0, c1, c2, c3, c4]] wx fun e w' => ∃ v', e = .returned v' ∧ OwnMade w' wx.heap.size v' m ∧ Below wx.heap.size wx w')
    (s0 s1 s2 s4 s5 s6 s7 s8 s9 s10 s11 s12 s13 s14 s15 s16 s17 s18 s19 s20 s21 s22 s23 s24 s25 s26 s27 s28 s29 s30 s31 s32 s33 s34 s35 s36 s37 s38 s39 s40 s41 s42 s43 s44 s45 s46 s47 s48 s49 s50 s51 s52 s53 s54 s55 s56 s57 s58 s59 s60 s61 s62 s63 s64 s65 s66 s67 s68 s69 s70 s71 s72 s73 s74 s75 s76 s77 s78 s79 s80 s81 s82 s83 s84 s85 s86 s87 s88 s89 s90 s91 s92 s93 s94 s95 s96 s97 s98 s99 s100 s101 s102 s103 s104 s105 s106 s107 s108 s109 s110 s111 s112 s113 s114 s115 s116 s117 s118 s119 s120 : Value) (Q : Exit → Act → World → Prop)
    (hQ : ∀ (t24 t25 t26 t27 t28 t29 : Value) (b8 b9 : Nat) (x0 : Option Addr) (x1 x2 : Nat) (x3 : Option Addr) (x4 x5 : Nat) (x6 : Option Addr) (x7 x8 : Nat) (x9 : Option Addr) (x10 x11 : Nat) (x12 : Option Addr) (x13 x14 : Nat) (y0 : Option Addr) (y1 y2 : Nat) (y3 : Option Addr) (y4 y5 : Nat) (y6 : Option Addr) (y7 y8 : Nat) (y9 : Option Addr) (y10 y11 : Nat) (y12 : Option Addr) (y13 y14 : Nat) (wx : World), Below w1.heap.size w1 wx → Blk wx b8 34 #[.slice x0 x1 x2, .slice x3 x4 x5, .slice x6 x7 x8, .slice x9 x10 x11, .slice x12 x13 x14] → IsNode wx (.agg #[.slice x0 x1 x2, .slice x3 x4 x5, .slice x6 x7 x8, .slice x9 x10 x11, .slice x12 x13 x14]) n → Blk wx b9 34 #[.slice y0 y1 y2, .slice y3 y4 y5, .slice y6 y7 y8, .slice y9 y10 y11, .slice y12 y13 y14] → IsNode wx (.agg #[.slice y0 y1 y2, .slice y3 y4 y5, .slice y6 y7 y8, .slice y9 y10 y11, .slice y12 y13 y14]) m → Q .normal ⟨#[s0, s1, s2, .pointer (some ⟨X, 0, none⟩), s4, s5, s6, s7, .pointer (some ⟨b8, 0, none⟩), .pointer (some ⟨b9, 0, none⟩), s10, s11, s12, s13, s14, s15, s16, s17, s18, s19, s20, s21, s22, s23, t24, t25, t26, t27, t28, t29, s30, s31, s32, s33, s34, s35, s36, s37, s38, s39, s40, s41, s42, s43, s44, s45, s46, s47, s48, s49, s50, s51, s52, s53, s54, s55, s56, s57, s58, s59, s60, s61, s62, s63, s64, s65, s66, s67, s68, s69, s70, s71, s72, s73, s74, s75, s76, s77, s78, s79, s80, s81, s82, s83, s84, s85, s86, s87, s88, s89, s90, s91, s92, s93, s94, s95, s96, s97, s98, s99, s100, s101, s102, s103, s104, s105, s106, s107, s108, s109, s110, s111, s112, s113, s114, s115, s116, s117, s118, s119, s120], []⟩ wx) :
    regB4.wp Tryz.prog Q ⟨#[s0, s1, s2, .pointer (some ⟨X, 0, none⟩), s4, s5, s6, s7, s8, s9, s10, s11, s12, s13, s14, s15, s16, s17, s18, s19, s20, s21, s22, s23, s24, s25, s26, s27, s28, s29, s30, s31, s32, s33, s34, s35, s36, s37, s38, s39, s40, s41, s42, s43, s44, s45, s46, s47, s48, s49, s50, s51, s52, s53, s54, s55, s56, s57, s58, s59, s60, s61, s62, s63, s64, s65, s66, s67, s68, s69, s70, s71, s72, s73, s74, s75, s76, s77, s78, s79, s80, s81, s82, s83, s84, s85, s86, s87, s88, s89, s90, s91, s92, s93, s94, s95, s96, s97, s98, s99, s100, s101, s102, s103, s104, s105, s106, s107, s108, s109, s110, s111, s112, s113, s114, s115, s116, s117, s118, s119, s120], []⟩ w1 := by
  have mixed := mixedA
  conv => arg 2; whnf
  have HQ := Lib.hid hQ
  have HA := Lib.hid hA
  have HB := Lib.hid hB
  have hx0 : ∀ wx, Below w1.heap.size w1 wx → wx.cell? ⟨X, 0, none⟩ = some a0 := fun wx h => (hX wx h).c0 0 _ rfl
  have hx1 : ∀ wx, Below w1.heap.size w1 wx → wx.cell? ⟨X, 1, none⟩ = some a1 := fun wx h => (hX wx h).c0 1 _ rfl
  have hx2 : ∀ wx, Below w1.heap.size w1 wx → wx.cell? ⟨X, 2, none⟩ = some a2 := fun wx h => (hX wx h).c0 2 _ rfl
  have hx3 : ∀ wx, Below w1.heap.size w1 wx → wx.cell? ⟨X, 3, none⟩ = some a3 := fun wx h => (hX wx h).c0 3 _ rfl
  have hx4 : ∀ wx, Below w1.heap.size w1 wx → wx.cell? ⟨X, 4, none⟩ = some a4 := fun wx h => (hX wx h).c0 4 _ rfl
  have hx5 : ∀ wx, Below w1.heap.size w1 wx → wx.cell? ⟨X, 5, none⟩ = some c0 := fun wx h => (hX wx h).c0 5 _ rfl
  have hx6 : ∀ wx, Below w1.heap.size w1 wx → wx.cell? ⟨X, 6, none⟩ = some c1 := fun wx h => (hX wx h).c0 6 _ rfl
  have hx7 : ∀ wx, Below w1.heap.size w1 wx → wx.cell? ⟨X, 7, none⟩ = some c2 := fun wx h => (hX wx h).c0 7 _ rfl
  have hx8 : ∀ wx, Below w1.heap.size w1 wx → wx.cell? ⟨X, 8, none⟩ = some c3 := fun wx h => (hX wx h).c0 8 _ rfl
  have hx9 : ∀ wx, Below w1.heap.size w1 wx → wx.cell? ⟨X, 9, none⟩ = some c4 := fun wx h => (hX wx h).c0 9 _ rfl
  clear hQ hA hB hX
  refine wp_region_noPanic ?_
  refine region_T (n := 8) (S := fun wx => Below w1.heap.size w1 wx) mixed (below_drewN w1 1) (fun hHeld => ?_)
  have hS : Below w1.heap.size w1 w1.drew := hHeld
  clear hHeld
  generalize hwd : w1.drew = wd at *
  clear hwd
  refine T_take (i := 0) (oi := _) (v := ?_) rfl (by kernel_rfl) (by kernel_rfl) (by kernel_rfl) (by kernel_rfl) (fun _ _ _ h => h) (Or.inl ⟨by kernel_rfl, ?_⟩) (by with_reducible assumption) ?_
  rotate_left
  · intro wt hSw
    go_simp
    all_goals with_reducible rfl
  try simp only [Act.put, List.setIfInBounds_toArray]
  refine T_take (i := 1) (oi := _) (v := ?_) rfl (by kernel_rfl) (by kernel_rfl) (by kernel_rfl) (by kernel_rfl) (fun _ _ _ h => h) (Or.inl ⟨by kernel_rfl, ?_⟩) (by with_reducible assumption) ?_
  rotate_left
  · intro wt hSw
    go_simp
    all_goals with_reducible rfl
  try simp only [Act.put]
  refine T_take2 (i := 3) (oi := _) (v := ?_) rfl (by kernel_rfl) (by kernel_rfl) (by kernel_rfl) (by kernel_rfl) (by kernel_rfl) (fun _ _ _ h => h) (Or.inl ⟨by kernel_rfl, ?_⟩) (by with_reducible assumption) ?_
  rotate_left
  · intro wt hSw
    go_simp
    all_goals with_reducible rfl
  try simp only [Act.put]
  refine T_take2 (i := 4) (oi := _) (v := ?_) rfl (by kernel_rfl) (by kernel_rfl) (by kernel_rfl) (by kernel_rfl) (by kernel_rfl) (fun _ _ _ h => h) (Or.inl ⟨by kernel_rfl, ?_⟩) (by with_reducible assumption) ?_
  rotate_left
  · intro wt hSw
    go_simp
    all_goals with_reducible rfl
  try simp only [Act.put]
  refine T_ready (rs := [2, 6, 7]) (by kernel_rfl) (by simp) ?_
  refine AllT.cons (o := _) rfl (fun K hK => ?_) (AllT.cons (o := _) rfl (fun K hK => ?_) (AllT.cons (o := _) rfl (fun K hK => ?_) AllT.nil))
  · go_simp
    (go_at_call 14; (refine (HA.out _ hS).mono ?_); rintro e w2 ⟨v2, rfl, hn0, hb⟩; have hn := made_is hn0; clear hn0; obtain ⟨x0, x1, x2, x3, x4, x5, x6, x7, x8, x9, x10, x11, x12, x13, x14, rfl⟩ := node_slices hn)
    refine hK.out _ _ (fun _ => Below.trans hS (hb.mono (Below.size hS))) ?_
    clear hK K
    try simp only [List.setIfInBounds_toArray, List.set_cons_zero, List.set_cons_succ]
    replace hS := Below.trans hS (hb.mono (Below.size hS))
    clear hb
    refine T_ready (rs := [5, 6, 7]) (by kernel_rfl) (by simp) ?_
    refine AllT.cons (o := _) rfl (fun K hK => ?_) (AllT.cons (o := _) rfl (fun K hK => ?_) (AllT.cons (o := _) rfl (fun K hK => ?_) AllT.nil))
    · go_simp
      (go_at_call 14; (refine (HB.out _ hS).mono ?_); rintro e w5 ⟨v5, rfl, hm0, hb⟩; have hm := made_is hm0; clear hm0; obtain ⟨y0, y1, y2, y3, y4, y5, y6, y7, y8, y9, y10, y11, y12, y13, y14, rfl⟩ := node_slices hm)
      refine hK.out _ _ (fun _ => Below.trans hS (hb.mono (Below.size hS))) ?_
      clear hK K
      try simp only [List.setIfInBounds_toArray, List.set_cons_zero, List.set_cons_succ]
      replace hn := hn.below hb
      replace hS := Below.trans hS (hb.mono (Below.size hS))
      clear hb
      refine T_ready (rs := [6, 7]) (by kernel_rfl) (by simp) ?_
      refine AllT.cons (o := _) rfl (fun K hK => ?_) (AllT.cons (o := _) rfl (fun K hK => ?_) AllT.nil)
      · go_simp
        refine hK.out _ _ (fun _ => keepAQ hS _) ?_
        clear hK K
        try simp only [List.setIfInBounds_toArray, List.set_cons_zero, List.set_cons_succ]
        have ge8 := Below.size hS
        have k8 := blk_next 34 #[.slice none 0 0, .slice none 0 0, .slice none 0 0, .slice none 0 0, .slice none 0 0] w5 w5.heap.size rfl
        replace hn := hn.below (below_box (Obj.cells #[.slice none 0 0, .slice none 0 0, .slice none 0 0, .slice none 0 0, .slice none 0 0] 34))
        replace hm := hm.below (below_box (Obj.cells #[.slice none 0 0, .slice none 0 0, .slice none 0 0, .slice none 0 0, .slice none 0 0] 34))
        replace hS := keepAQ hS (Obj.cells #[.slice none 0 0, .slice none 0 0, .slice none 0 0, .slice none 0 0, .slice none 0 0] 34)
        refine T_ready (rs := [7]) (by kernel_rfl) (by simp) ?_
        refine AllT.cons (o := _) rfl (fun K hK => ?_) AllT.nil
        go_simp
        refine hK.out _ _ (fun _ => keepAQ hS _) ?_
        clear hK K
        try simp only [List.setIfInBounds_toArray, List.set_cons_zero, List.set_cons_succ]
        have hlt : w5.heap.size < w5.heap.size + 1 := Nat.lt_succ_self _
        have ge9 : w1.heap.size ≤ w5.heap.size + 1 := Nat.le_succ_of_le ge8
        have k9 := blk_next 34 #[.slice none 0 0, .slice none 0 0, .slice none 0 0, .slice none 0 0, .slice none 0 0] (w5.alloc (Obj.cells #[.slice none 0 0, .slice none 0 0, .slice none 0 0, .slice none 0 0, .slice none 0 0] 34)) (w5.heap.size + 1) (by simp)
        replace hn := hn.below (below_box (Obj.cells #[.slice none 0 0, .slice none 0 0, .slice none 0 0, .slice none 0 0, .slice none 0 0] 34))
        replace hm := hm.below (below_box (Obj.cells #[.slice none 0 0, .slice none 0 0, .slice none 0 0, .slice none 0 0, .slice none 0 0] 34))
        replace k8 := k8.alloc (Obj.cells #[.slice none 0 0, .slice none 0 0, .slice none 0 0, .slice none 0 0, .slice none 0 0] 34)
        replace hS := keepAQ hS (Obj.cells #[.slice none 0 0, .slice none 0 0, .slice none 0 0, .slice none 0 0, .slice none 0 0] 34)
        generalize ((w5).alloc (Obj.cells #[.slice none 0 0, .slice none 0 0, .slice none 0 0, .slice none 0 0, .slice none 0 0] 34)).alloc (Obj.cells #[.slice none 0 0, .slice none 0 0, .slice none 0 0, .slice none 0 0, .slice none 0 0] 34) = wz at *
        refine T_ready (rs := [8]) (by kernel_rfl) (by simp) ?_
        refine AllT.cons (o := _) rfl (fun K hK => ?_) AllT.nil
        obtain ⟨q0, q1, q2, q3, q4, f0, f1, f2, f3, f4⟩ := five_ok k8
        go_simp
        refine hK.out _ _ (fun h => absurd h (by decide)) ?_
        clear hK K
        try simp only [List.setIfInBounds_toArray, List.set_cons_zero, List.set_cons_succ]
        clear q0 q1 q2 q3 q4 f0 f1 f2 f3 f4
        have hN := first_put (by first | exact Nat.ne_of_lt hlt | exact (Nat.ne_of_lt hlt).symm) hS ge8 k8 k9 hn hm
        clear k8 k9 hn hm hS
        obtain ⟨wv, hwv, hS, k8, k9, hn, hm⟩ := hN
        unfold st5 at hwv
        rw [← hwv]
        clear hwv
        refine T_ready (rs := [9]) (by kernel_rfl) (by simp) ?_
        refine AllT.cons (o := _) rfl (fun K hK => ?_) AllT.nil
        obtain ⟨q0, q1, q2, q3, q4, f0, f1, f2, f3, f4⟩ := five_ok k9
        go_simp
        refine hK.out _ _ (fun h => absurd h (by decide)) ?_
        clear hK K
        try simp only [List.setIfInBounds_toArray, List.set_cons_zero, List.set_cons_succ]
        clear q0 q1 q2 q3 q4 f0 f1 f2 f3 f4
        have hN := second_put (by first | exact Nat.ne_of_lt hlt | exact (Nat.ne_of_lt hlt).symm) hS ge9 k8 k9 hn hm
        clear k8 k9 hn hm hS
        obtain ⟨wu, hwu, hS, k8, k9, hn, hm⟩ := hN
        unfold st5 at hwu
        rw [← hwu]
        clear hwu
        exact T_done (by kernel_rfl) (NoPanic.normal (HQ.out _ _ _ _ _ _ _ _ _ _ _ _ _ _ _ _ _ _ _ _ _ _ _ _ _ _ _ _ _ _ _ _ _ _ _ _ _ _ _ hS k8 hn k9 hm)) _
      · go_simp
        refine hK.out _ _ (fun _ => keepAQ hS _) ?_
        clear hK K
        try simp only [List.setIfInBounds_toArray, List.set_cons_zero, List.set_cons_succ]
        have ge9 := Below.size hS
        have k9 := blk_next 34 #[.slice none 0 0, .slice none 0 0, .slice none 0 0, .slice none 0 0, .slice none 0 0] w5 w5.heap.size rfl
        replace hn := hn.below (below_box (Obj.cells #[.slice none 0 0, .slice none 0 0, .slice none 0 0, .slice none 0 0, .slice none 0 0] 34))
        replace hm := hm.below (below_box (Obj.cells #[.slice none 0 0, .slice none 0 0, .slice none 0 0, .slice none 0 0, .slice none 0 0] 34))
        replace hS := keepAQ hS (Obj.cells #[.slice none 0 0, .slice none 0 0, .slice none 0 0, .slice none 0 0, .slice none 0 0] 34)
        refine T_ready (rs := [6]) (by kernel_rfl) (by simp) ?_
        refine AllT.cons (o := _) rfl (fun K hK => ?_) AllT.nil
        go_simp
        refine hK.out _ _ (fun _ => keepAQ hS _) ?_
        clear hK K
        try simp only [List.setIfInBounds_toArray, List.set_cons_zero, List.set_cons_succ]
        have hlt : w5.heap.size < w5.heap.size + 1 := Nat.lt_succ_self _
        have ge8 : w1.heap.size ≤ w5.heap.size + 1 := Nat.le_succ_of_le ge9
        have k8 := blk_next 34 #[.slice none 0 0, .slice none 0 0, .slice none 0 0, .slice none 0 0, .slice none 0 0] (w5.alloc (Obj.cells #[.slice none 0 0, .slice none 0 0, .slice none 0 0, .slice none 0 0, .slice none 0 0] 34)) (w5.heap.size + 1) (by simp)
        replace hn := hn.below (below_box (Obj.cells #[.slice none 0 0, .slice none 0 0, .slice none 0 0, .slice none 0 0, .slice none 0 0] 34))
        replace hm := hm.below (below_box (Obj.cells #[.slice none 0 0, .slice none 0 0, .slice none 0 0, .slice none 0 0, .slice none 0 0] 34))
        replace k9 := k9.alloc (Obj.cells #[.slice none 0 0, .slice none 0 0, .slice none 0 0, .slice none 0 0, .slice none 0 0] 34)
        replace hS := keepAQ hS (Obj.cells #[.slice none 0 0, .slice none 0 0, .slice none 0 0, .slice none 0 0, .slice none 0 0] 34)
        generalize ((w5).alloc (Obj.cells #[.slice none 0 0, .slice none 0 0, .slice none 0 0, .slice none 0 0, .slice none 0 0] 34)).alloc (Obj.cells #[.slice none 0 0, .slice none 0 0, .slice none 0 0, .slice none 0 0, .slice none 0 0] 34) = wz at *
        refine T_ready (rs := [8]) (by kernel_rfl) (by simp) ?_
        refine AllT.cons (o := _) rfl (fun K hK => ?_) AllT.nil
        obtain ⟨q0, q1, q2, q3, q4, f0, f1, f2, f3, f4⟩ := five_ok k8
        go_simp
        refine hK.out _ _ (fun h => absurd h (by decide)) ?_
        clear hK K
        try simp only [List.setIfInBounds_toArray, List.set_cons_zero, List.set_cons_succ]
        clear q0 q1 q2 q3 q4 f0 f1 f2 f3 f4
        have hN := first_put (by first | exact Nat.ne_of_lt hlt | exact (Nat.ne_of_lt hlt).symm) hS ge8 k8 k9 hn hm
        clear k8 k9 hn hm hS
        obtain ⟨wv, hwv, hS, k8, k9, hn, hm⟩ := hN
        unfold st5 at hwv
        rw [← hwv]
        clear hwv
        refine T_ready (rs := [9]) (by kernel_rfl) (by simp) ?_
        refine AllT.cons (o := _) rfl (fun K hK => ?_) AllT.nil
        obtain ⟨q0, q1, q2, q3, q4, f0, f1, f2, f3, f4⟩ := five_ok k9
        go_simp
        refine hK.out _ _ (fun h => absurd h (by decide)) ?_
        clear hK K
        try simp only [List.setIfInBounds_toArray, List.set_cons_zero, List.set_cons_succ]
        clear q0 q1 q2 q3 q4 f0 f1 f2 f3 f4
        have hN := second_put (by first | exact Nat.ne_of_lt hlt | exact (Nat.ne_of_lt hlt).symm) hS ge9 k8 k9 hn hm
        clear k8 k9 hn hm hS
        obtain ⟨wu, hwu, hS, k8, k9, hn, hm⟩ := hN
        unfold st5 at hwu
        rw [← hwu]
        clear hwu
        exact T_done (by kernel_rfl) (NoPanic.normal (HQ.out _ _ _ _ _ _ _ _ _ _ _ _ _ _ _ _ _ _ _ _ _ _ _ _ _ _ _ _ _ _ _ _ _ _ _ _ _ _ _ hS k8 hn k9 hm)) _
    · go_simp
      refine hK.out _ _ (fun _ => keepAQ hS _) ?_
      clear hK K
      try simp only [List.setIfInBounds_toArray, List.set_cons_zero, List.set_cons_succ]
      have ge8 := Below.size hS
      have k8 := blk_next 34 #[.slice none 0 0, .slice none 0 0, .slice none 0 0, .slice none 0 0, .slice none 0 0] w2 w2.heap.size rfl
      replace hn := hn.below (below_box (Obj.cells #[.slice none 0 0, .slice none 0 0, .slice none 0 0, .slice none 0 0, .slice none 0 0] 34))
      replace hS := keepAQ hS (Obj.cells #[.slice none 0 0, .slice none 0 0, .slice none 0 0, .slice none 0 0, .slice none 0 0] 34)
      refine T_ready (rs := [5, 7]) (by kernel_rfl) (by simp) ?_
      refine AllT.cons (o := _) rfl (fun K hK => ?_) (AllT.cons (o := _) rfl (fun K hK => ?_) AllT.nil)
      · go_simp
        (go_at_call 14; (refine (HB.out _ hS).mono ?_); rintro e w5 ⟨v5, rfl, hm0, hb⟩; have hm := made_is hm0; clear hm0; obtain ⟨y0, y1, y2, y3, y4, y5, y6, y7, y8, y9, y10, y11, y12, y13, y14, rfl⟩ := node_slices hm)
        refine hK.out _ _ (fun _ => Below.trans hS (hb.mono (Below.size hS))) ?_
        clear hK K
        try simp only [List.setIfInBounds_toArray, List.set_cons_zero, List.set_cons_succ]
        replace hn := hn.below hb
        replace k8 := k8.below hb k8.lt
        replace hS := Below.trans hS (hb.mono (Below.size hS))
        clear hb
        refine T_ready (rs := [7]) (by kernel_rfl) (by simp) ?_
        refine AllT.cons (o := _) rfl (fun K hK => ?_) AllT.nil
        go_simp
        refine hK.out _ _ (fun _ => keepAQ hS _) ?_
        clear hK K
        try simp only [List.setIfInBounds_toArray, List.set_cons_zero, List.set_cons_succ]
        have hlt := k8.lt
        have ge9 := Below.size hS
        have k9 := blk_next 34 #[.slice none 0 0, .slice none 0 0, .slice none 0 0, .slice none 0 0, .slice none 0 0] w5 w5.heap.size rfl
        replace hn := hn.below (below_box (Obj.cells #[.slice none 0 0, .slice none 0 0, .slice none 0 0, .slice none 0 0, .slice none 0 0] 34))
        replace hm := hm.below (below_box (Obj.cells #[.slice none 0 0, .slice none 0 0, .slice none 0 0, .slice none 0 0, .slice none 0 0] 34))
        replace k8 := k8.alloc (Obj.cells #[.slice none 0 0, .slice none 0 0, .slice none 0 0, .slice none 0 0, .slice none 0 0] 34)
        replace hS := keepAQ hS (Obj.cells #[.slice none 0 0, .slice none 0 0, .slice none 0 0, .slice none 0 0, .slice none 0 0] 34)
        generalize (w5).alloc (Obj.cells #[.slice none 0 0, .slice none 0 0, .slice none 0 0, .slice none 0 0, .slice none 0 0] 34) = wz at *
        refine T_ready (rs := [8]) (by kernel_rfl) (by simp) ?_
        refine AllT.cons (o := _) rfl (fun K hK => ?_) AllT.nil
        obtain ⟨q0, q1, q2, q3, q4, f0, f1, f2, f3, f4⟩ := five_ok k8
        go_simp
        refine hK.out _ _ (fun h => absurd h (by decide)) ?_
        clear hK K
        try simp only [List.setIfInBounds_toArray, List.set_cons_zero, List.set_cons_succ]
        clear q0 q1 q2 q3 q4 f0 f1 f2 f3 f4
        have hN := first_put (by first | exact Nat.ne_of_lt hlt | exact (Nat.ne_of_lt hlt).symm) hS ge8 k8 k9 hn hm
        clear k8 k9 hn hm hS
        obtain ⟨wv, hwv, hS, k8, k9, hn, hm⟩ := hN
        unfold st5 at hwv
        rw [← hwv]
        clear hwv
        refine T_ready (rs := [9]) (by kernel_rfl) (by simp) ?_
        refine AllT.cons (o := _) rfl (fun K hK => ?_) AllT.nil
        obtain ⟨q0, q1, q2, q3, q4, f0, f1, f2, f3, f4⟩ := five_ok k9
        go_simp
        refine hK.out _ _ (fun h => absurd h (by decide)) ?_
        clear hK K
        try simp only [List.setIfInBounds_toArray, List.set_cons_zero, List.set_cons_succ]
        clear q0 q1 q2 q3 q4 f0 f1 f2 f3 f4
        have hN := second_put (by first | exact Nat.ne_of_lt hlt | exact (Nat.ne_of_lt hlt).symm) hS ge9 k8 k9 hn hm
        clear k8 k9 hn hm hS
        obtain ⟨wu, hwu, hS, k8, k9, hn, hm⟩ := hN
        unfold st5 at hwu
        rw [← hwu]
        clear hwu
        exact T_done (by kernel_rfl) (NoPanic.normal (HQ.out _ _ _ _ _ _ _ _ _ _ _ _ _ _ _ _ _ _ _ _ _ _ _ _ _ _ _ _ _ _ _ _ _ _ _ _ _ _ _ hS k8 hn k9 hm)) _
      · go_simp
        refine hK.out _ _ (fun _ => keepAQ hS _) ?_
        clear hK K
        try simp only [List.setIfInBounds_toArray, List.set_cons_zero, List.set_cons_succ]
        have hlt : w2.heap.size < w2.heap.size + 1 := Nat.lt_succ_self _
        have ge9 : w1.heap.size ≤ w2.heap.size + 1 := Nat.le_succ_of_le ge8
        have k9 := blk_next 34 #[.slice none 0 0, .slice none 0 0, .slice none 0 0, .slice none 0 0, .slice none 0 0] (w2.alloc (Obj.cells #[.slice none 0 0, .slice none 0 0, .slice none 0 0, .slice none 0 0, .slice none 0 0] 34)) (w2.heap.size + 1) (by simp)
        replace hn := hn.below (below_box (Obj.cells #[.slice none 0 0, .slice none 0 0, .slice none 0 0, .slice none 0 0, .slice none 0 0] 34))
        replace k8 := k8.alloc (Obj.cells #[.slice none 0 0, .slice none 0 0, .slice none 0 0, .slice none 0 0, .slice none 0 0] 34)
        replace hS := keepAQ hS (Obj.cells #[.slice none 0 0, .slice none 0 0, .slice none 0 0, .slice none 0 0, .slice none 0 0] 34)
        refine T_ready (rs := [5]) (by kernel_rfl) (by simp) ?_
        refine AllT.cons (o := _) rfl (fun K hK => ?_) AllT.nil
        go_simp
        (go_at_call 14; (refine (HB.out _ hS).mono ?_); rintro e w5 ⟨v5, rfl, hm0, hb⟩; have hm := made_is hm0; clear hm0; obtain ⟨y0, y1, y2, y3, y4, y5, y6, y7, y8, y9, y10, y11, y12, y13, y14, rfl⟩ := node_slices hm)
        refine hK.out _ _ (fun _ => Below.trans hS (hb.mono (Below.size hS))) ?_
        clear hK K
        try simp only [List.setIfInBounds_toArray, List.set_cons_zero, List.set_cons_succ]
        replace hn := hn.below hb
        replace k8 := k8.below hb k8.lt
        replace k9 := k9.below hb k9.lt
        replace hS := Below.trans hS (hb.mono (Below.size hS))
        clear hb
        refine T_ready (rs := [8]) (by kernel_rfl) (by simp) ?_
        refine AllT.cons (o := _) rfl (fun K hK => ?_) AllT.nil
        obtain ⟨q0, q1, q2, q3, q4, f0, f1, f2, f3, f4⟩ := five_ok k8
        go_simp
        refine hK.out _ _ (fun h => absurd h (by decide)) ?_
        clear hK K
        try simp only [List.setIfInBounds_toArray, List.set_cons_zero, List.set_cons_succ]
        clear q0 q1 q2 q3 q4 f0 f1 f2 f3 f4
        have hN := first_put (by first | exact Nat.ne_of_lt hlt | exact (Nat.ne_of_lt hlt).symm) hS ge8 k8 k9 hn hm
        clear k8 k9 hn hm hS
        obtain ⟨wv, hwv, hS, k8, k9, hn, hm⟩ := hN
        unfold st5 at hwv
        rw [← hwv]
        clear hwv
        refine T_ready (rs := [9]) (by kernel_rfl) (by simp) ?_
        refine AllT.cons (o := _) rfl (fun K hK => ?_) AllT.nil
        obtain ⟨q0, q1, q2, q3, q4, f0, f1, f2, f3, f4⟩ := five_ok k9
        go_simp
        refine hK.out _ _ (fun h => absurd h (by decide)) ?_
        clear hK K
        try simp only [List.setIfInBounds_toArray, List.set_cons_zero, List.set_cons_succ]
        clear q0 q1 q2 q3 q4 f0 f1 f2 f3 f4
        have hN := second_put (by first | exact Nat.ne_of_lt hlt | exact (Nat.ne_of_lt hlt).symm) hS ge9 k8 k9 hn hm
        clear k8 k9 hn hm hS
        obtain ⟨wu, hwu, hS, k8, k9, hn, hm⟩ := hN
        unfold st5 at hwu
        rw [← hwu]
        clear hwu
        exact T_done (by kernel_rfl) (NoPanic.normal (HQ.out _ _ _ _ _ _ _ _ _ _ _ _ _ _ _ _ _ _ _ _ _ _ _ _ _ _ _ _ _ _ _ _ _ _ _ _ _ _ _ hS k8 hn k9 hm)) _
    · go_simp
      refine hK.out _ _ (fun _ => keepAQ hS _) ?_
      clear hK K
      try simp only [List.setIfInBounds_toArray, List.set_cons_zero, List.set_cons_succ]
      have ge9 := Below.size hS
      have k9 := blk_next 34 #[.slice none 0 0, .slice none 0 0, .slice none 0 0, .slice none 0 0, .slice none 0 0] w2 w2.heap.size rfl
      replace hn := hn.below (below_box (Obj.cells #[.slice none 0 0, .slice none 0 0, .slice none 0 0, .slice none 0 0, .slice none 0 0] 34))
      replace hS := keepAQ hS (Obj.cells #[.slice none 0 0, .slice none 0 0, .slice none 0 0, .slice none 0 0, .slice none 0 0] 34)
      refine T_ready (rs := [5, 6]) (by kernel_rfl) (by simp) ?_
      refine AllT.cons (o := _) rfl (fun K hK => ?_) (AllT.cons (o := _) rfl (fun K hK => ?_) AllT.nil)
      · go_simp
        (go_at_call 14; (refine (HB.out _ hS).mono ?_); rintro e w5 ⟨v5, rfl, hm0, hb⟩; have hm := made_is hm0; clear hm0; obtain ⟨y0, y1, y2, y3, y4, y5, y6, y7, y8, y9, y10, y11, y12, y13, y14, rfl⟩ := node_slices hm)
        refine hK.out _ _ (fun _ => Below.trans hS (hb.mono (Below.size hS))) ?_
        clear hK K
        try simp only [List.setIfInBounds_toArray, List.set_cons_zero, List.set_cons_succ]
        replace hn := hn.below hb
        replace k9 := k9.below hb k9.lt
        replace hS := Below.trans hS (hb.mono (Below.size hS))
        clear hb
        refine T_ready (rs := [6]) (by kernel_rfl) (by simp) ?_
        refine AllT.cons (o := _) rfl (fun K hK => ?_) AllT.nil
        go_simp
        refine hK.out _ _ (fun _ => keepAQ hS _) ?_
        clear hK K
        try simp only [List.setIfInBounds_toArray, List.set_cons_zero, List.set_cons_succ]
        have hlt := k9.lt
        have ge8 := Below.size hS
        have k8 := blk_next 34 #[.slice none 0 0, .slice none 0 0, .slice none 0 0, .slice none 0 0, .slice none 0 0] w5 w5.heap.size rfl
        replace hn := hn.below (below_box (Obj.cells #[.slice none 0 0, .slice none 0 0, .slice none 0 0, .slice none 0 0, .slice none 0 0] 34))
        replace hm := hm.below (below_box (Obj.cells #[.slice none 0 0, .slice none 0 0, .slice none 0 0, .slice none 0 0, .slice none 0 0] 34))
        replace k9 := k9.alloc (Obj.cells #[.slice none 0 0, .slice none 0 0, .slice none 0 0, .slice none 0 0, .slice none 0 0] 34)
        replace hS := keepAQ hS (Obj.cells #[.slice none 0 0, .slice none 0 0, .slice none 0 0, .slice none 0 0, .slice none 0 0] 34)
        generalize (w5).alloc (Obj.cells #[.slice none 0 0, .slice none 0 0, .slice none 0 0, .slice none 0 0, .slice none 0 0] 34) = wz at *
        refine T_ready (rs := [8]) (by kernel_rfl) (by simp) ?_
        refine AllT.cons (o := _) rfl (fun K hK => ?_) AllT.nil
        obtain ⟨q0, q1, q2, q3, q4, f0, f1, f2, f3, f4⟩ := five_ok k8
        go_simp
        refine hK.out _ _ (fun h => absurd h (by decide)) ?_
        clear hK K
        try simp only [List.setIfInBounds_toArray, List.set_cons_zero, List.set_cons_succ]
        clear q0 q1 q2 q3 q4 f0 f1 f2 f3 f4
        have hN := first_put (by first | exact Nat.ne_of_lt hlt | exact (Nat.ne_of_lt hlt).symm) hS ge8 k8 k9 hn hm
        clear k8 k9 hn hm hS
        obtain ⟨wv, hwv, hS, k8, k9, hn, hm⟩ := hN
        unfold st5 at hwv
        rw [← hwv]
        clear hwv
        refine T_ready (rs := [9]) (by kernel_rfl) (by simp) ?_
        refine AllT.cons (o := _) rfl (fun K hK => ?_) AllT.nil
        obtain ⟨q0, q1, q2, q3, q4, f0, f1, f2, f3, f4⟩ := five_ok k9
        go_simp
        refine hK.out _ _ (fun h => absurd h (by decide)) ?_
        clear hK K
        try simp only [List.setIfInBounds_toArray, List.set_cons_zero, List.set_cons_succ]
        clear q0 q1 q2 q3 q4 f0 f1 f2 f3 f4
        have hN := second_put (by first | exact Nat.ne_of_lt hlt | exact (Nat.ne_of_lt hlt).symm) hS ge9 k8 k9 hn hm
        clear k8 k9 hn hm hS
        obtain ⟨wu, hwu, hS, k8, k9, hn, hm⟩ := hN
        unfold st5 at hwu
        rw [← hwu]
        clear hwu
        exact T_done (by kernel_rfl) (NoPanic.normal (HQ.out _ _ _ _ _ _ _ _ _ _ _ _ _ _ _ _ _ _ _ _ _ _ _ _ _ _ _ _ _ _ _ _ _ _ _ _ _ _ _ hS k8 hn k9 hm)) _
      · go_simp
        refine hK.out _ _ (fun _ => keepAQ hS _) ?_
        clear hK K
        try simp only [List.setIfInBounds_toArray, List.set_cons_zero, List.set_cons_succ]
        have hlt : w2.heap.size < w2.heap.size + 1 := Nat.lt_succ_self _
        have ge8 : w1.heap.size ≤ w2.heap.size + 1 := Nat.le_succ_of_le ge9
        have k8 := blk_next 34 #[.slice none 0 0, .slice none 0 0, .slice none 0 0, .slice none 0 0, .slice none 0 0] (w2.alloc (Obj.cells #[.slice none 0 0, .slice none 0 0, .slice none 0 0, .slice none 0 0, .slice none 0 0] 34)) (w2.heap.size + 1) (by simp)
        replace hn := hn.below (below_box (Obj.cells #[.slice none 0 0, .slice none 0 0, .slice none 0 0, .slice none 0 0, .slice none 0 0] 34))
        replace k9 := k9.alloc (Obj.cells #[.slice none 0 0, .slice none 0 0, .slice none 0 0, .slice none 0 0, .slice none 0 0] 34)
        replace hS := keepAQ hS (Obj.cells #[.slice none 0 0, .slice none 0 0, .slice none 0 0, .slice none 0 0, .slice none 0 0] 34)
        refine T_ready (rs := [5]) (by kernel_rfl) (by simp) ?_
        refine AllT.cons (o := _) rfl (fun K hK => ?_) AllT.nil
        go_simp
        (go_at_call 14; (refine (HB.out _ hS).mono ?_); rintro e w5 ⟨v5, rfl, hm0, hb⟩; have hm := made_is hm0; clear hm0; obtain ⟨y0, y1, y2, y3, y4, y5, y6, y7, y8, y9, y10, y11, y12, y13, y14, rfl⟩ := node_slices hm)
        refine hK.out _ _ (fun _ => Below.trans hS (hb.mono (Below.size hS))) ?_
        clear hK K
        try simp only [List.setIfInBounds_toArray, List.set_cons_zero, List.set_cons_succ]
        replace hn := hn.below hb
        replace k8 := k8.below hb k8.lt
        replace k9 := k9.below hb k9.lt
        replace hS := Below.trans hS (hb.mono (Below.size hS))
        clear hb
        refine T_ready (rs := [8]) (by kernel_rfl) (by simp) ?_
        refine AllT.cons (o := _) rfl (fun K hK => ?_) AllT.nil
        obtain ⟨q0, q1, q2, q3, q4, f0, f1, f2, f3, f4⟩ := five_ok k8
        go_simp
        refine hK.out _ _ (fun h => absurd h (by decide)) ?_
        clear hK K
        try simp only [List.setIfInBounds_toArray, List.set_cons_zero, List.set_cons_succ]
        clear q0 q1 q2 q3 q4 f0 f1 f2 f3 f4
        have hN := first_put (by first | exact Nat.ne_of_lt hlt | exact (Nat.ne_of_lt hlt).symm) hS ge8 k8 k9 hn hm
        clear k8 k9 hn hm hS
        obtain ⟨wv, hwv, hS, k8, k9, hn, hm⟩ := hN
        unfold st5 at hwv
        rw [← hwv]
        clear hwv
        refine T_ready (rs := [9]) (by kernel_rfl) (by simp) ?_
        refine AllT.cons (o := _) rfl (fun K hK => ?_) AllT.nil
        obtain ⟨q0, q1, q2, q3, q4, f0, f1, f2, f3, f4⟩ := five_ok k9
        go_simp
        refine hK.out _ _ (fun h => absurd h (by decide)) ?_
        clear hK K
        try simp only [List.setIfInBounds_toArray, List.set_cons_zero, List.set_cons_succ]
        clear q0 q1 q2 q3 q4 f0 f1 f2 f3 f4
        have hN := second_put (by first | exact Nat.ne_of_lt hlt | exact (Nat.ne_of_lt hlt).symm) hS ge9 k8 k9 hn hm
        clear k8 k9 hn hm hS
        obtain ⟨wu, hwu, hS, k8, k9, hn, hm⟩ := hN
        unfold st5 at hwu
        rw [← hwu]
        clear hwu
        exact T_done (by kernel_rfl) (NoPanic.normal (HQ.out _ _ _ _ _ _ _ _ _ _ _ _ _ _ _ _ _ _ _ _ _ _ _ _ _ _ _ _ _ _ _ _ _ _ _ _ _ _ _ hS k8 hn k9 hm)) _
  · go_simp
    refine hK.out _ _ (fun _ => keepAQ hS _) ?_
    clear hK K
    try simp only [List.setIfInBounds_toArray, List.set_cons_zero, List.set_cons_succ]
    have ge8 := Below.size hS
    have k8 := blk_next 34 #[.slice none 0 0, .slice none 0 0, .slice none 0 0, .slice none 0 0, .slice none 0 0] wd wd.heap.size rfl
    replace hS := keepAQ hS (Obj.cells #[.slice none 0 0, .slice none 0 0, .slice none 0 0, .slice none 0 0, .slice none 0 0] 34)
    refine T_ready (rs := [2, 7]) (by kernel_rfl) (by simp) ?_
    refine AllT.cons (o := _) rfl (fun K hK => ?_) (AllT.cons (o := _) rfl (fun K hK => ?_) AllT.nil)
    · go_simp
      (go_at_call 14; (refine (HA.out _ hS).mono ?_); rintro e w2 ⟨v2, rfl, hn0, hb⟩; have hn := made_is hn0; clear hn0; obtain ⟨x0, x1, x2, x3, x4, x5, x6, x7, x8, x9, x10, x11, x12, x13, x14, rfl⟩ := node_slices hn)
      refine hK.out _ _ (fun _ => Below.trans hS (hb.mono (Below.size hS))) ?_
      clear hK K
      try simp only [List.setIfInBounds_toArray, List.set_cons_zero, List.set_cons_succ]
      replace k8 := k8.below hb k8.lt
      replace hS := Below.trans hS (hb.mono (Below.size hS))
      clear hb
      refine T_ready (rs := [5, 7]) (by kernel_rfl) (by simp) ?_
      refine AllT.cons (o := _) rfl (fun K hK => ?_) (AllT.cons (o := _) rfl (fun K hK => ?_) AllT.nil)
      · go_simp
        (go_at_call 14; (refine (HB.out _ hS).mono ?_); rintro e w5 ⟨v5, rfl, hm0, hb⟩; have hm := made_is hm0; clear hm0; obtain ⟨y0, y1, y2, y3, y4, y5, y6, y7, y8, y9, y10, y11, y12, y13, y14, rfl⟩ := node_slices hm)
        refine hK.out _ _ (fun _ => Below.trans hS (hb.mono (Below.size hS))) ?_
        clear hK K
        try simp only [List.setIfInBounds_toArray, List.set_cons_zero, List.set_cons_succ]
        replace hn := hn.below hb
        replace k8 := k8.below hb k8.lt
        replace hS := Below.trans hS (hb.mono (Below.size hS))
        clear hb
        refine T_ready (rs := [7]) (by kernel_rfl) (by simp) ?_
        refine AllT.cons (o := _) rfl (fun K hK => ?_) AllT.nil
        go_simp
        refine hK.out _ _ (fun _ => keepAQ hS _) ?_
        clear hK K
        try simp only [List.setIfInBounds_toArray, List.set_cons_zero, List.set_cons_succ]
        have hlt := k8.lt
        have ge9 := Below.size hS
        have k9 := blk_next 34 #[.slice none 0 0, .slice none 0 0, .slice none 0 0, .slice none 0 0, .slice none 0 0] w5 w5.heap.size rfl
        replace hn := hn.below (below_box (Obj.cells #[.slice none 0 0, .slice none 0 0, .slice none 0 0, .slice none 0 0, .slice none 0 0] 34))
        replace hm := hm.below (below_box (Obj.cells #[.slice none 0 0, .slice none 0 0, .slice none 0 0, .slice none 0 0, .slice none 0 0] 34))
        replace k8 := k8.alloc (Obj.cells #[.slice none 0 0, .slice none 0 0, .slice none 0 0, .slice none 0 0, .slice none 0 0] 34)
        replace hS := keepAQ hS (Obj.cells #[.slice none 0 0, .slice none 0 0, .slice none 0 0, .slice none 0 0, .slice none 0 0] 34)
        generalize (w5).alloc (Obj.cells #[.slice none 0 0, .slice none 0 0, .slice none 0 0, .slice none 0 0, .slice none 0 0] 34) = wz at *
        refine T_ready (rs := [8]) (by kernel_rfl) (by simp) ?_
        refine AllT.cons (o := _) rfl (fun K hK => ?_) AllT.nil
        obtain ⟨q0, q1, q2, q3, q4, f0, f1, f2, f3, f4⟩ := five_ok k8
        go_simp
        refine hK.out _ _ (fun h => absurd h (by decide)) ?_
        clear hK K
        try simp only [List.setIfInBounds_toArray, List.set_cons_zero, List.set_cons_succ]
        clear q0 q1 q2 q3 q4 f0 f1 f2 f3 f4
        have hN := first_put (by first | exact Nat.ne_of_lt hlt | exact (Nat.ne_of_lt hlt).symm) hS ge8 k8 k9 hn hm
        clear k8 k9 hn hm hS
        obtain ⟨wv, hwv, hS, k8, k9, hn, hm⟩ := hN
        unfold st5 at hwv
        rw [← hwv]
        clear hwv
        refine T_ready (rs := [9]) (by kernel_rfl) (by simp) ?_
        refine AllT.cons (o := _) rfl (fun K hK => ?_) AllT.nil
        obtain ⟨q0, q1, q2, q3, q4, f0, f1, f2, f3, f4⟩ := five_ok k9
        go_simp
        refine hK.out _ _ (fun h => absurd h (by decide)) ?_
        clear hK K
        try simp only [List.setIfInBounds_toArray, List.set_cons_zero, List.set_cons_succ]
        clear q0 q1 q2 q3 q4 f0 f1 f2 f3 f4
        have hN := second_put (by first | exact Nat.ne_of_lt hlt | exact (Nat.ne_of_lt hlt).symm) hS ge9 k8 k9 hn hm
        clear k8 k9 hn hm hS
        obtain ⟨wu, hwu, hS, k8, k9, hn, hm⟩ := hN
        unfold st5 at hwu
        rw [← hwu]
        clear hwu
        exact T_done (by kernel_rfl) (NoPanic.normal (HQ.out _ _ _ _ _ _ _ _ _ _ _ _ _ _ _ _ _ _ _ _ _ _ _ _ _ _ _ _ _ _ _ _ _ _ _ _ _ _ _ hS k8 hn k9 hm)) _
      · go_simp
        refine hK.out _ _ (fun _ => keepAQ hS _) ?_
        clear hK K
        try simp only [List.setIfInBounds_toArray, List.set_cons_zero, List.set_cons_succ]
        have hlt := k8.lt
        have ge9 := Below.size hS
        have k9 := blk_next 34 #[.slice none 0 0, .slice none 0 0, .slice none 0 0, .slice none 0 0, .slice none 0 0] w2 w2.heap.size rfl
        replace hn := hn.below (below_box (Obj.cells #[.slice none 0 0, .slice none 0 0, .slice none 0 0, .slice none 0 0, .slice none 0 0] 34))
        replace k8 := k8.alloc (Obj.cells #[.slice none 0 0, .slice none 0 0, .slice none 0 0, .slice none 0 0, .slice none 0 0] 34)
        replace hS := keepAQ hS (Obj.cells #[.slice none 0 0, .slice none 0 0, .slice none 0 0, .slice none 0 0, .slice none 0 0] 34)
        refine T_ready (rs := [5]) (by kernel_rfl) (by simp) ?_
        refine AllT.cons (o := _) rfl (fun K hK => ?_) AllT.nil
        go_simp
        (go_at_call 14; (refine (HB.out _ hS).mono ?_); rintro e w5 ⟨v5, rfl, hm0, hb⟩; have hm := made_is hm0; clear hm0; obtain ⟨y0, y1, y2, y3, y4, y5, y6, y7, y8, y9, y10, y11, y12, y13, y14, rfl⟩ := node_slices hm)
        refine hK.out _ _ (fun _ => Below.trans hS (hb.mono (Below.size hS))) ?_
        clear hK K
        try simp only [List.setIfInBounds_toArray, List.set_cons_zero, List.set_cons_succ]
        replace hn := hn.below hb
        replace k8 := k8.below hb k8.lt
        replace k9 := k9.below hb k9.lt
        replace hS := Below.trans hS (hb.mono (Below.size hS))
        clear hb
        refine T_ready (rs := [8]) (by kernel_rfl) (by simp) ?_
        refine AllT.cons (o := _) rfl (fun K hK => ?_) AllT.nil
        obtain ⟨q0, q1, q2, q3, q4, f0, f1, f2, f3, f4⟩ := five_ok k8
        go_simp
        refine hK.out _ _ (fun h => absurd h (by decide)) ?_
        clear hK K
        try simp only [List.setIfInBounds_toArray, List.set_cons_zero, List.set_cons_succ]
        clear q0 q1 q2 q3 q4 f0 f1 f2 f3 f4
        have hN := first_put (by first | exact Nat.ne_of_lt hlt | exact (Nat.ne_of_lt hlt).symm) hS ge8 k8 k9 hn hm
        clear k8 k9 hn hm hS
        obtain ⟨wv, hwv, hS, k8, k9, hn, hm⟩ := hN
        unfold st5 at hwv
        rw [← hwv]
        clear hwv
        refine T_ready (rs := [9]) (by kernel_rfl) (by simp) ?_
        refine AllT.cons (o := _) rfl (fun K hK => ?_) AllT.nil
        obtain ⟨q0, q1, q2, q3, q4, f0, f1, f2, f3, f4⟩ := five_ok k9
        go_simp
        refine hK.out _ _ (fun h => absurd h (by decide)) ?_
        clear hK K
        try simp only [List.setIfInBounds_toArray, List.set_cons_zero, List.set_cons_succ]
        clear q0 q1 q2 q3 q4 f0 f1 f2 f3 f4
        have hN := second_put (by first | exact Nat.ne_of_lt hlt | exact (Nat.ne_of_lt hlt).symm) hS ge9 k8 k9 hn hm
        clear k8 k9 hn hm hS
        obtain ⟨wu, hwu, hS, k8, k9, hn, hm⟩ := hN
        unfold st5 at hwu
        rw [← hwu]
        clear hwu
        exact T_done (by kernel_rfl) (NoPanic.normal (HQ.out _ _ _ _ _ _ _ _ _ _ _ _ _ _ _ _ _ _ _ _ _ _ _ _ _ _ _ _ _ _ _ _ _ _ _ _ _ _ _ hS k8 hn k9 hm)) _
    · go_simp
      refine hK.out _ _ (fun _ => keepAQ hS _) ?_
      clear hK K
      try simp only [List.setIfInBounds_toArray, List.set_cons_zero, List.set_cons_succ]
      have hlt : wd.heap.size < wd.heap.size + 1 := Nat.lt_succ_self _
      have ge9 : w1.heap.size ≤ wd.heap.size + 1 := Nat.le_succ_of_le ge8
      have k9 := blk_next 34 #[.slice none 0 0, .slice none 0 0, .slice none 0 0, .slice none 0 0, .slice none 0 0] (wd.alloc (Obj.cells #[.slice none 0 0, .slice none 0 0, .slice none 0 0, .slice none 0 0, .slice none 0 0] 34)) (wd.heap.size + 1) (by simp)
      replace k8 := k8.alloc (Obj.cells #[.slice none 0 0, .slice none 0 0, .slice none 0 0, .slice none 0 0, .slice none 0 0] 34)
      replace hS := keepAQ hS (Obj.cells #[.slice none 0 0, .slice none 0 0, .slice none 0 0, .slice none 0 0, .slice none 0 0] 34)
      refine T_ready (rs := [2]) (by kernel_rfl) (by simp) ?_
      refine AllT.cons (o := _) rfl (fun K hK => ?_) AllT.nil
      go_simp
      (go_at_call 14; (refine (HA.out _ hS).mono ?_); rintro e w2 ⟨v2, rfl, hn0, hb⟩; have hn := made_is hn0; clear hn0; obtain ⟨x0, x1, x2, x3, x4, x5, x6, x7, x8, x9, x10, x11, x12, x13, x14, rfl⟩ := node_slices hn)
      refine hK.out _ _ (fun _ => Below.trans hS (hb.mono (Below.size hS))) ?_
      clear hK K
      try simp only [List.setIfInBounds_toArray, List.set_cons_zero, List.set_cons_succ]
      replace k8 := k8.below hb k8.lt
      replace k9 := k9.below hb k9.lt
      replace hS := Below.trans hS (hb.mono (Below.size hS))
      clear hb
      refine T_ready (rs := [5]) (by kernel_rfl) (by simp) ?_
      refine AllT.cons (o := _) rfl (fun K hK => ?_) AllT.nil
      go_simp
      (go_at_call 14; (refine (HB.out _ hS).mono ?_); rintro e w5 ⟨v5, rfl, hm0, hb⟩; have hm := made_is hm0; clear hm0; obtain ⟨y0, y1, y2, y3, y4, y5, y6, y7, y8, y9, y10, y11, y12, y13, y14, rfl⟩ := node_slices hm)
      refine hK.out _ _ (fun _ => Below.trans hS (hb.mono (Below.size hS))) ?_
      clear hK K
      try simp only [List.setIfInBounds_toArray, List.set_cons_zero, List.set_cons_succ]
      replace hn := hn.below hb
      replace k8 := k8.below hb k8.lt
      replace k9 := k9.below hb k9.lt
      replace hS := Below.trans hS (hb.mono (Below.size hS))
      clear hb
      refine T_ready (rs := [8]) (by kernel_rfl) (by simp) ?_
      refine AllT.cons (o := _) rfl (fun K hK => ?_) AllT.nil
      obtain ⟨q0, q1, q2, q3, q4, f0, f1, f2, f3, f4⟩ := five_ok k8
      go_simp
      refine hK.out _ _ (fun h => absurd h (by decide)) ?_
      clear hK K
      try simp only [List.setIfInBounds_toArray, List.set_cons_zero, List.set_cons_succ]
      clear q0 q1 q2 q3 q4 f0 f1 f2 f3 f4
      have hN := first_put (by first | exact Nat.ne_of_lt hlt | exact (Nat.ne_of_lt hlt).symm) hS ge8 k8 k9 hn hm
      clear k8 k9 hn hm hS
      obtain ⟨wv, hwv, hS, k8, k9, hn, hm⟩ := hN
      unfold st5 at hwv
      rw [← hwv]
      clear hwv
      refine T_ready (rs := [9]) (by kernel_rfl) (by simp) ?_
      refine AllT.cons (o := _) rfl (fun K hK => ?_) AllT.nil
      obtain ⟨q0, q1, q2, q3, q4, f0, f1, f2, f3, f4⟩ := five_ok k9
      go_simp
      refine hK.out _ _ (fun h => absurd h (by decide)) ?_
      clear hK K
      try simp only [List.setIfInBounds_toArray, List.set_cons_zero, List.set_cons_succ]
      clear q0 q1 q2 q3 q4 f0 f1 f2 f3 f4
      have hN := second_put (by first | exact Nat.ne_of_lt hlt | exact (Nat.ne_of_lt hlt).symm) hS ge9 k8 k9 hn hm
      clear k8 k9 hn hm hS
      obtain ⟨wu, hwu, hS, k8, k9, hn, hm⟩ := hN
      unfold st5 at hwu
      rw [← hwu]
      clear hwu
      exact T_done (by kernel_rfl) (NoPanic.normal (HQ.out _ _ _ _ _ _ _ _ _ _ _ _ _ _ _ _ _ _ _ _ _ _ _ _ _ _ _ _ _ _ _ _ _ _ _ _ _ _ _ hS k8 hn k9 hm)) _
  · go_simp
    refine hK.out _ _ (fun _ => keepAQ hS _) ?_
    clear hK K
    try simp only [List.setIfInBounds_toArray, List.set_cons_zero, List.set_cons_succ]
    have ge9 := Below.size hS
    have k9 := blk_next 34 #[.slice none 0 0, .slice none 0 0, .slice none 0 0, .slice none 0 0, .slice none 0 0] wd wd.heap.size rfl
    replace hS := keepAQ hS (Obj.cells #[.slice none 0 0, .slice none 0 0, .slice none 0 0, .slice none 0 0, .slice none 0 0] 34)
    refine T_ready (rs := [2, 6]) (by kernel_rfl) (by simp) ?_
    refine AllT.cons (o := _) rfl (fun K hK => ?_) (AllT.cons (o := _) rfl (fun K hK => ?_) AllT.nil)
    · go_simp
      (go_at_call 14; (refine (HA.out _ hS).mono ?_); rintro e w2 ⟨v2, rfl, hn0, hb⟩; have hn := made_is hn0; clear hn0; obtain ⟨x0, x1, x2, x3, x4, x5, x6, x7, x8, x9, x10, x11, x12, x13, x14, rfl⟩ := node_slices hn)
      refine hK.out _ _ (fun _ => Below.trans hS (hb.mono (Below.size hS))) ?_
      clear hK K
      try simp only [List.setIfInBounds_toArray, List.set_cons_zero, List.set_cons_succ]
      replace k9 := k9.below hb k9.lt
      replace hS := Below.trans hS (hb.mono (Below.size hS))
      clear hb
      refine T_ready (rs := [5, 6]) (by kernel_rfl) (by simp) ?_
      refine AllT.cons (o := _) rfl (fun K hK => ?_) (AllT.cons (o := _) rfl (fun K hK => ?_) AllT.nil)
      · go_simp
        (go_at_call 14; (refine (HB.out _ hS).mono ?_); rintro e w5 ⟨v5, rfl, hm0, hb⟩; have hm := made_is hm0; clear hm0; obtain ⟨y0, y1, y2, y3, y4, y5, y6, y7, y8, y9, y10, y11, y12, y13, y14, rfl⟩ := node_slices hm)
        refine hK.out _ _ (fun _ => Below.trans hS (hb.mono (Below.size hS))) ?_
        clear hK K
        try simp only [List.setIfInBounds_toArray, List.set_cons_zero, List.set_cons_succ]
        replace hn := hn.below hb
        replace k9 := k9.below hb k9.lt
        replace hS := Below.trans hS (hb.mono (Below.size hS))
        clear hb
        refine T_ready (rs := [6]) (by kernel_rfl) (by simp) ?_
        refine AllT.cons (o := _) rfl (fun K hK => ?_) AllT.nil
        go_simp
        refine hK.out _ _ (fun _ => keepAQ hS _) ?_
        clear hK K
        try simp only [List.setIfInBounds_toArray, List.set_cons_zero, List.set_cons_succ]
        have hlt := k9.lt
        have ge8 := Below.size hS
        have k8 := blk_next 34 #[.slice none 0 0, .slice none 0 0, .slice none 0 0, .slice none 0 0, .slice none 0 0] w5 w5.heap.size rfl
        replace hn := hn.below (below_box (Obj.cells #[.slice none 0 0, .slice none 0 0, .slice none 0 0, .slice none 0 0, .slice none 0 0] 34))
        replace hm := hm.below (below_box (Obj.cells #[.slice none 0 0, .slice none 0 0, .slice none 0 0, .slice none 0 0, .slice none 0 0] 34))
        replace k9 := k9.alloc (Obj.cells #[.slice none 0 0, .slice none 0 0, .slice none 0 0, .slice none 0 0, .slice none 0 0] 34)
        replace hS := keepAQ hS (Obj.cells #[.slice none 0 0, .slice none 0 0, .slice none 0 0, .slice none 0 0, .slice none 0 0] 34)
        generalize (w5).alloc (Obj.cells #[.slice none 0 0, .slice none 0 0, .slice none 0 0, .slice none 0 0, .slice none 0 0] 34) = wz at *
        refine T_ready (rs := [8]) (by kernel_rfl) (by simp) ?_
        refine AllT.cons (o := _) rfl (fun K hK => ?_) AllT.nil
        obtain ⟨q0, q1, q2, q3, q4, f0, f1, f2, f3, f4⟩ := five_ok k8
        go_simp
        refine hK.out _ _ (fun h => absurd h (by decide)) ?_
        clear hK K
        try simp only [List.setIfInBounds_toArray, List.set_cons_zero, List.set_cons_succ]
        clear q0 q1 q2 q3 q4 f0 f1 f2 f3 f4
        have hN := first_put (by first | exact Nat.ne_of_lt hlt | exact (Nat.ne_of_lt hlt).symm) hS ge8 k8 k9 hn hm
        clear k8 k9 hn hm hS
        obtain ⟨wv, hwv, hS, k8, k9, hn, hm⟩ := hN
        unfold st5 at hwv
        rw [← hwv]
        clear hwv
        refine T_ready (rs := [9]) (by kernel_rfl) (by simp) ?_
        refine AllT.cons (o := _) rfl (fun K hK => ?_) AllT.nil
        obtain ⟨q0, q1, q2, q3, q4, f0, f1, f2, f3, f4⟩ := five_ok k9
        go_simp
        refine hK.out _ _ (fun h => absurd h (by decide)) ?_
        clear hK K
        try simp only [List.setIfInBounds_toArray, List.set_cons_zero, List.set_cons_succ]
        clear q0 q1 q2 q3 q4 f0 f1 f2 f3 f4
        have hN := second_put (by first | exact Nat.ne_of_lt hlt | exact (Nat.ne_of_lt hlt).symm) hS ge9 k8 k9 hn hm
        clear k8 k9 hn hm hS
        obtain ⟨wu, hwu, hS, k8, k9, hn, hm⟩ := hN
        unfold st5 at hwu
        rw [← hwu]
        clear hwu
        exact T_done (by kernel_rfl) (NoPanic.normal (HQ.out _ _ _ _ _ _ _ _ _ _ _ _ _ _ _ _ _ _ _ _ _ _ _ _ _ _ _ _ _ _ _ _ _ _ _ _ _ _ _ hS k8 hn k9 hm)) _
      · go_simp
        refine hK.out _ _ (fun _ => keepAQ hS _) ?_
        clear hK K
        try simp only [List.setIfInBounds_toArray, List.set_cons_zero, List.set_cons_succ]
        have hlt := k9.lt
        have ge8 := Below.size hS
        have k8 := blk_next 34 #[.slice none 0 0, .slice none 0 0, .slice none 0 0, .slice none 0 0, .slice none 0 0] w2 w2.heap.size rfl
        replace hn := hn.below (below_box (Obj.cells #[.slice none 0 0, .slice none 0 0, .slice none 0 0, .slice none 0 0, .slice none 0 0] 34))
        replace k9 := k9.alloc (Obj.cells #[.slice none 0 0, .slice none 0 0, .slice none 0 0, .slice none 0 0, .slice none 0 0] 34)
        replace hS := keepAQ hS (Obj.cells #[.slice none 0 0, .slice none 0 0, .slice none 0 0, .slice none 0 0, .slice none 0 0] 34)
        refine T_ready (rs := [5]) (by kernel_rfl) (by simp) ?_
        refine AllT.cons (o := _) rfl (fun K hK => ?_) AllT.nil
        go_simp
        (go_at_call 14; (refine (HB.out _ hS).mono ?_); rintro e w5 ⟨v5, rfl, hm0, hb⟩; have hm := made_is hm0; clear hm0; obtain ⟨y0, y1, y2, y3, y4, y5, y6, y7, y8, y9, y10, y11, y12, y13, y14, rfl⟩ := node_slices hm)
        refine hK.out _ _ (fun _ => Below.trans hS (hb.mono (Below.size hS))) ?_
        clear hK K
        try simp only [List.setIfInBounds_toArray, List.set_cons_zero, List.set_cons_succ]
        replace hn := hn.below hb
        replace k8 := k8.below hb k8.lt
        replace k9 := k9.below hb k9.lt
        replace hS := Below.trans hS (hb.mono (Below.size hS))
        clear hb
        refine T_ready (rs := [8]) (by kernel_rfl) (by simp) ?_
        refine AllT.cons (o := _) rfl (fun K hK => ?_) AllT.nil
        obtain ⟨q0, q1, q2, q3, q4, f0, f1, f2, f3, f4⟩ := five_ok k8
        go_simp
        refine hK.out _ _ (fun h => absurd h (by decide)) ?_
        clear hK K
        try simp only [List.setIfInBounds_toArray, List.set_cons_zero, List.set_cons_succ]
        clear q0 q1 q2 q3 q4 f0 f1 f2 f3 f4
        have hN := first_put (by first | exact Nat.ne_of_lt hlt | exact (Nat.ne_of_lt hlt).symm) hS ge8 k8 k9 hn hm
        clear k8 k9 hn hm hS
        obtain ⟨wv, hwv, hS, k8, k9, hn, hm⟩ := hN
        unfold st5 at hwv
        rw [← hwv]
        clear hwv
        refine T_ready (rs := [9]) (by kernel_rfl) (by simp) ?_
        refine AllT.cons (o := _) rfl (fun K hK => ?_) AllT.nil
        obtain ⟨q0, q1, q2, q3, q4, f0, f1, f2, f3, f4⟩ := five_ok k9
        go_simp
        refine hK.out _ _ (fun h => absurd h (by decide)) ?_
        clear hK K
        try simp only [List.setIfInBounds_toArray, List.set_cons_zero, List.set_cons_succ]
        clear q0 q1 q2 q3 q4 f0 f1 f2 f3 f4
        have hN := second_put (by first | exact Nat.ne_of_lt hlt | exact (Nat.ne_of_lt hlt).symm) hS ge9 k8 k9 hn hm
        clear k8 k9 hn hm hS
        obtain ⟨wu, hwu, hS, k8, k9, hn, hm⟩ := hN
        unfold st5 at hwu
        rw [← hwu]
        clear hwu
        exact T_done (by kernel_rfl) (NoPanic.normal (HQ.out _ _ _ _ _ _ _ _ _ _ _ _ _ _ _ _ _ _ _ _ _ _ _ _ _ _ _ _ _ _ _ _ _ _ _ _ _ _ _ hS k8 hn k9 hm)) _
    · go_simp
      refine hK.out _ _ (fun _ => keepAQ hS _) ?_
      clear hK K
      try simp only [List.setIfInBounds_toArray, List.set_cons_zero, List.set_cons_succ]
      have hlt : wd.heap.size < wd.heap.size + 1 := Nat.lt_succ_self _
      have ge8 : w1.heap.size ≤ wd.heap.size + 1 := Nat.le_succ_of_le ge9
      have k8 := blk_next 34 #[.slice none 0 0, .slice none 0 0, .slice none 0 0, .slice none 0 0, .slice none 0 0] (wd.alloc (Obj.cells #[.slice none 0 0, .slice none 0 0, .slice none 0 0, .slice none 0 0, .slice none 0 0] 34)) (wd.heap.size + 1) (by simp)
      replace k9 := k9.alloc (Obj.cells #[.slice none 0 0, .slice none 0 0, .slice none 0 0, .slice none 0 0, .slice none 0 0] 34)
      replace hS := keepAQ hS (Obj.cells #[.slice none 0 0, .slice none 0 0, .slice none 0 0, .slice none 0 0, .slice none 0 0] 34)
      refine T_ready (rs := [2]) (by kernel_rfl) (by simp) ?_
      refine AllT.cons (o := _) rfl (fun K hK => ?_) AllT.nil
      go_simp
      (go_at_call 14; (refine (HA.out _ hS).mono ?_); rintro e w2 ⟨v2, rfl, hn0, hb⟩; have hn := made_is hn0; clear hn0; obtain ⟨x0, x1, x2, x3, x4, x5, x6, x7, x8, x9, x10, x11, x12, x13, x14, rfl⟩ := node_slices hn)
      refine hK.out _ _ (fun _ => Below.trans hS (hb.mono (Below.size hS))) ?_
      clear hK K
      try simp only [List.setIfInBounds_toArray, List.set_cons_zero, List.set_cons_succ]
      replace k8 := k8.below hb k8.lt
      replace k9 := k9.below hb k9.lt
      replace hS := Below.trans hS (hb.mono (Below.size hS))
      clear hb
      refine T_ready (rs := [5]) (by kernel_rfl) (by simp) ?_
      refine AllT.cons (o := _) rfl (fun K hK => ?_) AllT.nil
      go_simp
      (go_at_call 14; (refine (HB.out _ hS).mono ?_); rintro e w5 ⟨v5, rfl, hm0, hb⟩; have hm := made_is hm0; clear hm0; obtain ⟨y0, y1, y2, y3, y4, y5, y6, y7, y8, y9, y10, y11, y12, y13, y14, rfl⟩ := node_slices hm)
      refine hK.out _ _ (fun _ => Below.trans hS (hb.mono (Below.size hS))) ?_
      clear hK K
      try simp only [List.setIfInBounds_toArray, List.set_cons_zero, List.set_cons_succ]
      replace hn := hn.below hb
      replace k8 := k8.below hb k8.lt
      replace k9 := k9.below hb k9.lt
      replace hS := Below.trans hS (hb.mono (Below.size hS))
      clear hb
      refine T_ready (rs := [8]) (by kernel_rfl) (by simp) ?_
      refine AllT.cons (o := _) rfl (fun K hK => ?_) AllT.nil
      obtain ⟨q0, q1, q2, q3, q4, f0, f1, f2, f3, f4⟩ := five_ok k8
      go_simp
      refine hK.out _ _ (fun h => absurd h (by decide)) ?_
      clear hK K
      try simp only [List.setIfInBounds_toArray, List.set_cons_zero, List.set_cons_succ]
      clear q0 q1 q2 q3 q4 f0 f1 f2 f3 f4
      have hN := first_put (by first | exact Nat.ne_of_lt hlt | exact (Nat.ne_of_lt hlt).symm) hS ge8 k8 k9 hn hm
      clear k8 k9 hn hm hS
      obtain ⟨wv, hwv, hS, k8, k9, hn, hm⟩ := hN
      unfold st5 at hwv
      rw [← hwv]
      clear hwv
      refine T_ready (rs := [9]) (by kernel_rfl) (by simp) ?_
      refine AllT.cons (o := _) rfl (fun K hK => ?_) AllT.nil
      obtain ⟨q0, q1, q2, q3, q4, f0, f1, f2, f3, f4⟩ := five_ok k9
      go_simp
      refine hK.out _ _ (fun h => absurd h (by decide)) ?_
      clear hK K
      try simp only [List.setIfInBounds_toArray, List.set_cons_zero, List.set_cons_succ]
      clear q0 q1 q2 q3 q4 f0 f1 f2 f3 f4
      have hN := second_put (by first | exact Nat.ne_of_lt hlt | exact (Nat.ne_of_lt hlt).symm) hS ge9 k8 k9 hn hm
      clear k8 k9 hn hm hS
      obtain ⟨wu, hwu, hS, k8, k9, hn, hm⟩ := hN
      unfold st5 at hwu
      rw [← hwu]
      clear hwu
      exact T_done (by kernel_rfl) (NoPanic.normal (HQ.out _ _ _ _ _ _ _ _ _ _ _ _ _ _ _ _ _ _ _ _ _ _ _ _ _ _ _ _ _ _ _ _ _ _ _ _ _ _ _ hS k8 hn k9 hm)) _

end Go.Proofs.YtmbfghbhajmpiaaGreat
