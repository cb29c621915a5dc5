/-
  Walks: the region of the law NodeSpans that makes the node and the span; a span that is written over a fresh box.
-/
import Derived.Test.YtmbfghbhajmpiaaGreatYDF
import Derived.Test.YtmbfghbhajmpiaaGreatYJC
import Derived.Deep.RegionHeld3
namespace Go.Proofs.YtmbfghbhajmpiaaGreat
open Go.RowKit Go.Sort
set_option linter.unusedVariables false

def st2 (w : World) (b : Nat) (y0 y1 : Value) : World := (w.setCell ⟨b, 0, none⟩ y0).setCell ⟨b, 1, none⟩ y1
theorem st2_heap (w : World) (b k : Nat) (y0 y1 : Value) (h : k ≠ b) : (st2 w b y0 y1).heap[k]? = w.heap[k]? := by
  unfold st2
  rw [Below.heap_setCell _ _ _ _ h, Below.heap_setCell _ _ _ _ h]
theorem st2_size (w : World) (b : Nat) (y0 y1 : Value) : (st2 w b y0 y1).heap.size = w.heap.size := by
  unfold st2; simp
section
variable {w : World} {b : Nat} {T : TypeId} {y0 y1 : Value}
theorem off_span {g off : Nat} {k : IntKind} {n : Int} (hc : Blk w b T #[.string ⟨#[]⟩, .string ⟨#[]⟩]) (h : w.cell? ⟨g, off, none⟩ = some (.int k n)) : g ≠ b := by
  rintro rfl
  rw [hc.cell] at h
  match off, h with
  | 0, h => simp at h
  | 1, h => simp at h
  | k + 2, h => simp at h
theorem off_text {g off : Nat} {q : Bs} (hc : Blk w b T #[.string ⟨#[]⟩, .string ⟨#[]⟩]) (hq : q ≠ []) (h : w.cell? ⟨g, off, none⟩ = some (.string (Str q))) : g ≠ b := by
  rintro rfl
  rw [hc.cell] at h
  have hs : (⟨#[]⟩ : ByteArray) ≠ Str q := by
    intro e
    cases q with
    | nil => exact hq rfl
    | cons a r => have e2 := congrArg ByteArray.size e; simp [Str, ByteArray.size] at e2
  match off, h with
  | 0, h => simp at h; exact hs h
  | 1, h => simp at h; exact hs h
  | k + 2, h => simp at h
theorem node_st2 {v : Value} {n : Nd} (h : IsNode w v n) (hp : ∀ q ∈ n.pivots, q ≠ []) (hc : Blk w b T #[.string ⟨#[]⟩, .string ⟨#[]⟩]) : IsNode (st2 w b y0 y1) v n := by
  obtain ⟨a, b', c, d, e, rfl, h1, h2, h3, h4, h5⟩ := h
  have cell : ∀ {g off : Nat} {u : Value}, g ≠ b → w.cell? ⟨g, off, none⟩ = some u → (st2 w b y0 y1).cell? ⟨g, off, none⟩ = some u := fun hg hu => Eq.trans (World.cell?_of_block (st2_heap w b _ y0 y1 hg)) hu
  refine ⟨a, b', c, d, e, rfl, ?_, ?_, ?_, ?_, ?_⟩
  · obtain ⟨a, cap, e, h1, h2, h3, h4⟩ := h1
    refine ⟨a, cap, e, h1, h2, h3, fun hne => ?_⟩
    obtain ⟨g, off, e, hlt, hcc⟩ := h4 hne
    exact ⟨g, off, e, by rw [st2_size]; exact hlt, fun i hi => ⟨cell (off_span hc (hcc i hi).2.2) (hcc i hi).1, cell (off_span hc (hcc i hi).2.2) (hcc i hi).2.1, cell (off_span hc (hcc i hi).2.2) (hcc i hi).2.2⟩⟩
  · obtain ⟨a, cap, e, h1, h2, h4⟩ := h2
    refine ⟨a, cap, e, h1, h2, fun hne => ?_⟩
    obtain ⟨g, off, e, hlt, hcc⟩ := h4 hne
    exact ⟨g, off, e, by rw [st2_size]; exact hlt, fun i hi => cell (off_text hc (hp _ (List.getElem_mem hi)) (hcc i hi)) (hcc i hi)⟩
  · obtain ⟨a, cap, e, h1, h2, h4⟩ := h3
    refine ⟨a, cap, e, h1, h2, fun hne => ?_⟩
    obtain ⟨g, off, e, hlt, hcc⟩ := h4 hne
    exact ⟨g, off, e, by rw [st2_size]; exact hlt, fun i hi => cell (off_span hc (hcc i hi)) (hcc i hi)⟩
  · obtain ⟨a, cap, e, h1, h2, h4⟩ := h4
    refine ⟨a, cap, e, h1, h2, fun hne => ?_⟩
    obtain ⟨g, off, e, hlt, hcc⟩ := h4 hne
    exact ⟨g, off, e, by rw [st2_size]; exact hlt, fun i hi => ⟨cell (off_span hc (hcc i hi).1) (hcc i hi).1, cell (off_span hc (hcc i hi).1) (hcc i hi).2.1, cell (off_span hc (hcc i hi).1) (hcc i hi).2.2.1, cell (off_span hc (hcc i hi).1) (hcc i hi).2.2.2⟩⟩
  · obtain ⟨a, cap, e, h1, h2, h4⟩ := h5
    refine ⟨a, cap, e, h1, h2, fun hne => ?_⟩
    obtain ⟨g, off, e, hlt, hcc⟩ := h4 hne
    refine ⟨g, off, e, by rw [st2_size]; exact hlt, fun i hi => ?_⟩
    obtain ⟨z0, z1, z2, z3, z4, z5, z6, z7⟩ := hcc i hi
    have hg := off_span hc z0
    exact ⟨cell hg z0, cell hg z1, cell hg z2, cell hg z3, cell hg z4, cell hg z5, cell hg z6, cell hg z7⟩
end
theorem first_putS {w1 wx : World} {b8 b9 : Nat} {n : Nd} {x0 x3 x6 x9 x12 : Option Addr} {x1 x2 x4 x5 x7 x8 x10 x11 x13 x14 : Nat} (hne : b8 ≠ b9) (hS : Below w1.heap.size w1 wx) (ge8 : w1.heap.size ≤ b8) (k8 : Blk wx b8 34 #[.slice none 0 0, .slice none 0 0, .slice none 0 0, .slice none 0 0, .slice none 0 0]) (k9 : Blk wx b9 41 #[.string ⟨#[]⟩, .string ⟨#[]⟩]) (hn : IsNode wx (.agg #[.slice x0 x1 x2, .slice x3 x4 x5, .slice x6 x7 x8, .slice x9 x10 x11, .slice x12 x13 x14]) n) :
    ∃ wv, wv = st5 wx b8 (.slice x0 x1 x2) (.slice x3 x4 x5) (.slice x6 x7 x8) (.slice x9 x10 x11) (.slice x12 x13 x14) ∧ Below w1.heap.size w1 wv ∧ Blk wv b8 34 #[.slice x0 x1 x2, .slice x3 x4 x5, .slice x6 x7 x8, .slice x9 x10 x11, .slice x12 x13 x14] ∧ Blk wv b9 41 #[.string ⟨#[]⟩, .string ⟨#[]⟩] ∧ IsNode wv (.agg #[.slice x0 x1 x2, .slice x3 x4 x5, .slice x6 x7 x8, .slice x9 x10 x11, .slice x12 x13 x14]) n :=
  ⟨_, rfl, below_st5 hS ge8, blk_st5 k8, (st5_heap wx b8 b9 _ _ _ _ _ hne.symm).trans k9, node_st5 hn k8⟩
theorem second_putS {w1 wx : World} {b8 b9 : Nat} {n : Nd} {u0 u1 : Value} {x0 x3 x6 x9 x12 : Option Addr} {x1 x2 x4 x5 x7 x8 x10 x11 x13 x14 : Nat} (hne : b8 ≠ b9) (hS : Below w1.heap.size w1 wx) (ge9 : w1.heap.size ≤ b9) (k8 : Blk wx b8 34 #[.slice x0 x1 x2, .slice x3 x4 x5, .slice x6 x7 x8, .slice x9 x10 x11, .slice x12 x13 x14]) (k9 : Blk wx b9 41 #[.string ⟨#[]⟩, .string ⟨#[]⟩]) (hn : IsNode wx (.agg #[.slice x0 x1 x2, .slice x3 x4 x5, .slice x6 x7 x8, .slice x9 x10 x11, .slice x12 x13 x14]) n) (hp : ∀ q ∈ n.pivots, q ≠ []) :
    ∃ wv, wv = st2 wx b9 u0 u1 ∧ Below w1.heap.size w1 wv ∧ Blk wv b8 34 #[.slice x0 x1 x2, .slice x3 x4 x5, .slice x6 x7 x8, .slice x9 x10 x11, .slice x12 x13 x14] ∧ Blk wv b9 41 #[u0, u1] ∧ IsNode wv (.agg #[.slice x0 x1 x2, .slice x3 x4 x5, .slice x6 x7 x8, .slice x9 x10 x11, .slice x12 x13 x14]) n :=
  ⟨_, rfl, (hS.setCell (p := ⟨b9, 0, none⟩) ge9 _).setCell (p := ⟨b9, 1, none⟩) ge9 _, (st2_heap wx b9 b8 _ _ hne).trans k8, (k9.setCell 0 u0).setCell 1 u1, node_st2 hn hp k9⟩
noncomputable def regS4 : Code := ((Tryz.f7.body.bind (codeReg 4)).getD .skip)
set_option maxRecDepth 100000 in
set_option maxHeartbeats 16000000 in
theorem regS4_w (w1 : World) (X Y : Nat) (a0 a1 a2 a3 a4 : Value) (c0 c1 : Nat) (n : Nd) (lo hi : Bs) (hpv : ∀ q ∈ n.pivots, q ≠ [])
    (hX : ∀ wx, Below w1.heap.size w1 wx → Blk wx X 27 #[a0, a1, a2, a3, a4])
    (hY : ∀ wx, Below w1.heap.size w1 wx → Blk wx Y 43 #[.int .u8 c0, .int .u8 c1])
    (hA : ∀ wx, Below w1.heap.size w1 wx → Calls Tryz.prog 14 #[.agg #[a0, a1, a2, a3, a4]] wx fun e w' => ∃ v', e = .returned v' ∧ OwnMade w' wx.heap.size v' n ∧ Below wx.heap.size wx w')
    (hB : ∀ wx, Below w1.heap.size w1 wx → Calls Tryz.prog 15 #[.agg #[.int .u8 c0, .int .u8 c1]] wx fun e w' => e = .returned (.agg #[.string (Str lo), .string (Str hi)]) ∧ Below wx.heap.size wx w')
    (s0 s1 s2 s5 s6 s7 s8 s9 s10 s11 s12 s13 s14 s15 s16 s17 s18 s19 s20 s21 s22 s23 s24 s25 s26 s27 s28 s29 s30 s31 s32 s33 s34 s35 s36 s37 s38 s39 s40 s41 s42 s43 s44 s45 s46 s47 s48 s49 s50 s51 s52 s53 s54 s55 s56 s57 s58 s59 s60 s61 s62 s63 s64 s65 s66 s67 s68 s69 s70 s71 s72 s73 s74 s75 s76 s77 s78 s79 s80 s81 s82 s83 s84 s85 s86 s87 s88 s89 s90 s91 s92 s93 s94 s95 s96 s97 s98 s99 s100 s101 s102 s103 s104 s105 s106 s107 s108 s109 s110 s111 s112 s113 s114 s115 s116 s117 s118 s119 s120 : Value) (Q : Exit → Act → World → Prop)
    (hQ : ∀ (t18 t19 t20 t21 : Value) (b8 b9 : Nat) (x0 : Option Addr) (x1 x2 : Nat) (x3 : Option Addr) (x4 x5 : Nat) (x6 : Option Addr) (x7 x8 : Nat) (x9 : Option Addr) (x10 x11 : Nat) (x12 : Option Addr) (x13 x14 : Nat) (wx : World), Below w1.heap.size w1 wx → Blk wx b8 34 #[.slice x0 x1 x2, .slice x3 x4 x5, .slice x6 x7 x8, .slice x9 x10 x11, .slice x12 x13 x14] → IsNode wx (.agg #[.slice x0 x1 x2, .slice x3 x4 x5, .slice x6 x7 x8, .slice x9 x10 x11, .slice x12 x13 x14]) n → Blk wx b9 41 #[.string (Str lo), .string (Str hi)] → Q .normal ⟨#[s0, s1, s2, .pointer (some ⟨X, 0, none⟩), .pointer (some ⟨Y, 0, none⟩), s5, s6, s7, .pointer (some ⟨b8, 0, none⟩), .pointer (some ⟨b9, 0, none⟩), s10, s11, s12, s13, s14, s15, s16, s17, t18, t19, t20, t21, s22, s23, s24, s25, s26, s27, s28, s29, s30, s31, s32, s33, s34, s35, s36, s37, s38, s39, s40, s41, s42, s43, s44, s45, s46, s47, s48, s49, s50, s51, s52, s53, s54, s55, s56, s57, s58, s59, s60, s61, s62, s63, s64, s65, s66, s67, s68, s69, s70, s71, s72, s73, s74, s75, s76, s77, s78, s79, s80, s81, s82, s83, s84, s85, s86, s87, s88, s89, s90, s91, s92, s93, s94, s95, s96, s97, s98, s99, s100, s101, s102, s103, s104, s105, s106, s107, s108, s109, s110, s111, s112, s113, s114, s115, s116, s117, s118, s119, s120], []⟩ wx) :
    regS4.wp Tryz.prog Q ⟨#[s0, s1, s2, .pointer (some ⟨X, 0, none⟩), .pointer (some ⟨Y, 0, none⟩), s5, s6, s7, s8, s9, s10, s11, s12, s13, s14, s15, s16, s17, s18, s19, s20, s21, s22, s23, s24, s25, s26, s27, s28, s29, s30, s31, s32, s33, s34, s35, s36, s37, s38, s39, s40, s41, s42, s43, s44, s45, s46, s47, s48, s49, s50, s51, s52, s53, s54, s55, s56, s57, s58, s59, s60, s61, s62, s63, s64, s65, s66, s67, s68, s69, s70, s71, s72, s73, s74, s75, s76, s77, s78, s79, s80, s81, s82, s83, s84, s85, s86, s87, s88, s89, s90, s91, s92, s93, s94, s95, s96, s97, s98, s99, s100, s101, s102, s103, s104, s105, s106, s107, s108, s109, s110, s111, s112, s113, s114, s115, s116, s117, s118, s119, s120], []⟩ w1 := by
  have mixed := mixedA
  conv => arg 2; whnf
  have HQ := Lib.hid hQ
  have HA := Lib.hid hA
  have HB := Lib.hid hB
  have hx0 : ∀ wx, Below w1.heap.size w1 wx → wx.cell? ⟨X, 0, none⟩ = some a0 := fun wx h => (hX wx h).c0 0 _ rfl
  have hx1 : ∀ wx, Below w1.heap.size w1 wx → wx.cell? ⟨X, 1, none⟩ = some a1 := fun wx h => (hX wx h).c0 1 _ rfl
  have hx2 : ∀ wx, Below w1.heap.size w1 wx → wx.cell? ⟨X, 2, none⟩ = some a2 := fun wx h => (hX wx h).c0 2 _ rfl
  have hx3 : ∀ wx, Below w1.heap.size w1 wx → wx.cell? ⟨X, 3, none⟩ = some a3 := fun wx h => (hX wx h).c0 3 _ rfl
  have hx4 : ∀ wx, Below w1.heap.size w1 wx → wx.cell? ⟨X, 4, none⟩ = some a4 := fun wx h => (hX wx h).c0 4 _ rfl
  have hy0 : ∀ wx, Below w1.heap.size w1 wx → wx.cell? ⟨Y, 0, none⟩ = some (.int .u8 c0) := fun wx h => (hY wx h).c0 0 _ rfl
  have hy1 : ∀ wx, Below w1.heap.size w1 wx → wx.cell? ⟨Y, 1, none⟩ = some (.int .u8 c1) := fun wx h => (hY wx h).c0 1 _ rfl
  clear hQ hA hB hX hY
  refine wp_region_noPanic ?_
  refine region_T (n := 6) (S := fun wx => Below w1.heap.size w1 wx) mixed (below_drewN w1 1) (fun hHeld => ?_)
  have hS : Below w1.heap.size w1 w1.drew := hHeld
  clear hHeld
  generalize hwd : w1.drew = wd at *
  clear hwd
  refine T_take (i := 0) (oi := _) (v := ?_) rfl (by kernel_rfl) (by kernel_rfl) (by kernel_rfl) (by kernel_rfl) (fun _ _ _ h => h) (Or.inl ⟨by kernel_rfl, ?_⟩) (by with_reducible assumption) ?_
  rotate_left
  · intro wt hSw
    go_simp
    all_goals with_reducible rfl
  try simp only [Act.put, List.setIfInBounds_toArray]
  refine T_take2 (i := 2) (oi := _) (v := ?_) rfl (by kernel_rfl) (by kernel_rfl) (by kernel_rfl) (by kernel_rfl) (by kernel_rfl) (fun _ _ _ h => h) (Or.inl ⟨by kernel_rfl, ?_⟩) (by with_reducible assumption) ?_
  rotate_left
  · intro wt hSw
    go_simp
    all_goals with_reducible rfl
  try simp only [Act.put]
  refine T_ready (rs := [1, 4, 5]) (by kernel_rfl) (by simp) ?_
  refine AllT.cons (o := _) rfl (fun K hK => ?_) (AllT.cons (o := _) rfl (fun K hK => ?_) (AllT.cons (o := _) rfl (fun K hK => ?_) AllT.nil))
  · go_simp
    (go_at_call 14; (refine (HA.out _ hS).mono ?_); rintro e wy1 ⟨v2, rfl, hn0, hb⟩; have hn := made_is hn0; clear hn0; obtain ⟨x0, x1, x2, x3, x4, x5, x6, x7, x8, x9, x10, x11, x12, x13, x14, rfl⟩ := node_slices hn)
    refine hK.out _ _ (fun _ => Below.trans hS (hb.mono (Below.size hS))) ?_
    clear hK K
    try simp only [List.setIfInBounds_toArray, List.set_cons_zero, List.set_cons_succ]
    replace hS := Below.trans hS (hb.mono (Below.size hS))
    clear hb
    refine T_ready (rs := [3, 4, 5]) (by kernel_rfl) (by simp) ?_
    refine AllT.cons (o := _) rfl (fun K hK => ?_) (AllT.cons (o := _) rfl (fun K hK => ?_) (AllT.cons (o := _) rfl (fun K hK => ?_) AllT.nil))
    · go_simp
      (go_at_call 15; (refine (HB.out _ hS).mono ?_); rintro e wy3 ⟨rfl, hb⟩)
      refine hK.out _ _ (fun _ => Below.trans hS (hb.mono (Below.size hS))) ?_
      clear hK K
      try simp only [List.setIfInBounds_toArray, List.set_cons_zero, List.set_cons_succ]
      replace hn := hn.below hb
      replace hS := Below.trans hS (hb.mono (Below.size hS))
      clear hb
      refine T_ready (rs := [4, 5]) (by kernel_rfl) (by simp) ?_
      refine AllT.cons (o := _) rfl (fun K hK => ?_) (AllT.cons (o := _) rfl (fun K hK => ?_) AllT.nil)
      · go_simp
        refine hK.out _ _ (fun _ => keepAQ hS _) ?_
        clear hK K
        try simp only [List.setIfInBounds_toArray, List.set_cons_zero, List.set_cons_succ]
        have ge8 := Below.size hS
        have k8 := blk_next 34 #[.slice none 0 0, .slice none 0 0, .slice none 0 0, .slice none 0 0, .slice none 0 0] wy3 wy3.heap.size rfl
        replace hn := hn.below (below_box (Obj.cells #[.slice none 0 0, .slice none 0 0, .slice none 0 0, .slice none 0 0, .slice none 0 0] 34))
        replace hS := keepAQ hS (Obj.cells #[.slice none 0 0, .slice none 0 0, .slice none 0 0, .slice none 0 0, .slice none 0 0] 34)
        refine T_ready (rs := [5]) (by kernel_rfl) (by simp) ?_
        refine AllT.cons (o := _) rfl (fun K hK => ?_) AllT.nil
        go_simp
        refine hK.out _ _ (fun _ => keepAQ hS _) ?_
        clear hK K
        try simp only [List.setIfInBounds_toArray, List.set_cons_zero, List.set_cons_succ]
        have hlt : wy3.heap.size < wy3.heap.size + 1 := Nat.lt_succ_self _
        have ge9 : w1.heap.size ≤ wy3.heap.size + 1 := Nat.le_succ_of_le ge8
        have k9 := blk_next 41 #[.string ⟨#[]⟩, .string ⟨#[]⟩] (wy3.alloc (Obj.cells #[.slice none 0 0, .slice none 0 0, .slice none 0 0, .slice none 0 0, .slice none 0 0] 34)) (wy3.heap.size + 1) (by simp)
        replace hn := hn.below (below_box (Obj.cells #[.string ⟨#[]⟩, .string ⟨#[]⟩] 41))
        replace k8 := k8.alloc (Obj.cells #[.string ⟨#[]⟩, .string ⟨#[]⟩] 41)
        replace hS := keepAQ hS (Obj.cells #[.string ⟨#[]⟩, .string ⟨#[]⟩] 41)
        generalize ((wy3).alloc (Obj.cells #[.slice none 0 0, .slice none 0 0, .slice none 0 0, .slice none 0 0, .slice none 0 0] 34)).alloc (Obj.cells #[.string ⟨#[]⟩, .string ⟨#[]⟩] 41) = wz at *
        refine T_ready (rs := [6]) (by kernel_rfl) (by simp) ?_
        refine AllT.cons (o := _) rfl (fun K hK => ?_) AllT.nil
        obtain ⟨q0, q1, q2, q3, q4, f0, f1, f2, f3, f4⟩ := five_ok k8
        go_simp
        refine hK.out _ _ (fun h => absurd h (by decide)) ?_
        clear hK K
        try simp only [List.setIfInBounds_toArray, List.set_cons_zero, List.set_cons_succ]
        clear q0 q1 q2 q3 q4 f0 f1 f2 f3 f4
        have hN := first_putS (by first | exact Nat.ne_of_lt hlt | exact (Nat.ne_of_lt hlt).symm) hS ge8 k8 k9 hn
        clear k8 k9 hn hS
        obtain ⟨wv, hwv, hS, k8, k9, hn⟩ := hN
        unfold st5 at hwv
        rw [← hwv]
        clear hwv
        refine T_ready (rs := [7]) (by kernel_rfl) (by simp) ?_
        refine AllT.cons (o := _) rfl (fun K hK => ?_) AllT.nil
        have q0 := k9.c0 0 _ rfl
        have q1 := k9.c0 1 _ rfl
        have f0 := k9.free 0
        have f1 := k9.free 1
        go_simp
        refine hK.out _ _ (fun h => absurd h (by decide)) ?_
        clear hK K
        try simp only [List.setIfInBounds_toArray, List.set_cons_zero, List.set_cons_succ]
        clear q0 q1 f0 f1
        have hN := second_putS (u0 := .string (Str lo)) (u1 := .string (Str hi)) (by first | exact Nat.ne_of_lt hlt | exact (Nat.ne_of_lt hlt).symm) hS ge9 k8 k9 hn hpv
        clear k8 k9 hn hS
        obtain ⟨wu, hwu, hS, k8, k9, hn⟩ := hN
        unfold st2 at hwu
        rw [← hwu]
        clear hwu
        exact T_done (by kernel_rfl) (NoPanic.normal (HQ.out _ _ _ _ _ _ _ _ _ _ _ _ _ _ _ _ _ _ _ _ _ _ hS k8 hn k9)) _
      · go_simp
        refine hK.out _ _ (fun _ => keepAQ hS _) ?_
        clear hK K
        try simp only [List.setIfInBounds_toArray, List.set_cons_zero, List.set_cons_succ]
        have ge9 := Below.size hS
        have k9 := blk_next 41 #[.string ⟨#[]⟩, .string ⟨#[]⟩] wy3 wy3.heap.size rfl
        replace hn := hn.below (below_box (Obj.cells #[.string ⟨#[]⟩, .string ⟨#[]⟩] 41))
        replace hS := keepAQ hS (Obj.cells #[.string ⟨#[]⟩, .string ⟨#[]⟩] 41)
        refine T_ready (rs := [4]) (by kernel_rfl) (by simp) ?_
        refine AllT.cons (o := _) rfl (fun K hK => ?_) AllT.nil
        go_simp
        refine hK.out _ _ (fun _ => keepAQ hS _) ?_
        clear hK K
        try simp only [List.setIfInBounds_toArray, List.set_cons_zero, List.set_cons_succ]
        have hlt : wy3.heap.size < wy3.heap.size + 1 := Nat.lt_succ_self _
        have ge8 : w1.heap.size ≤ wy3.heap.size + 1 := Nat.le_succ_of_le ge9
        have k8 := blk_next 34 #[.slice none 0 0, .slice none 0 0, .slice none 0 0, .slice none 0 0, .slice none 0 0] (wy3.alloc (Obj.cells #[.string ⟨#[]⟩, .string ⟨#[]⟩] 41)) (wy3.heap.size + 1) (by simp)
        replace hn := hn.below (below_box (Obj.cells #[.slice none 0 0, .slice none 0 0, .slice none 0 0, .slice none 0 0, .slice none 0 0] 34))
        replace k9 := k9.alloc (Obj.cells #[.slice none 0 0, .slice none 0 0, .slice none 0 0, .slice none 0 0, .slice none 0 0] 34)
        replace hS := keepAQ hS (Obj.cells #[.slice none 0 0, .slice none 0 0, .slice none 0 0, .slice none 0 0, .slice none 0 0] 34)
        generalize ((wy3).alloc (Obj.cells #[.string ⟨#[]⟩, .string ⟨#[]⟩] 41)).alloc (Obj.cells #[.slice none 0 0, .slice none 0 0, .slice none 0 0, .slice none 0 0, .slice none 0 0] 34) = wz at *
        refine T_ready (rs := [6]) (by kernel_rfl) (by simp) ?_
        refine AllT.cons (o := _) rfl (fun K hK => ?_) AllT.nil
        obtain ⟨q0, q1, q2, q3, q4, f0, f1, f2, f3, f4⟩ := five_ok k8
        go_simp
        refine hK.out _ _ (fun h => absurd h (by decide)) ?_
        clear hK K
        try simp only [List.setIfInBounds_toArray, List.set_cons_zero, List.set_cons_succ]
        clear q0 q1 q2 q3 q4 f0 f1 f2 f3 f4
        have hN := first_putS (by first | exact Nat.ne_of_lt hlt | exact (Nat.ne_of_lt hlt).symm) hS ge8 k8 k9 hn
        clear k8 k9 hn hS
        obtain ⟨wv, hwv, hS, k8, k9, hn⟩ := hN
        unfold st5 at hwv
        rw [← hwv]
        clear hwv
        refine T_ready (rs := [7]) (by kernel_rfl) (by simp) ?_
        refine AllT.cons (o := _) rfl (fun K hK => ?_) AllT.nil
        have q0 := k9.c0 0 _ rfl
        have q1 := k9.c0 1 _ rfl
        have f0 := k9.free 0
        have f1 := k9.free 1
        go_simp
        refine hK.out _ _ (fun h => absurd h (by decide)) ?_
        clear hK K
        try simp only [List.setIfInBounds_toArray, List.set_cons_zero, List.set_cons_succ]
        clear q0 q1 f0 f1
        have hN := second_putS (u0 := .string (Str lo)) (u1 := .string (Str hi)) (by first | exact Nat.ne_of_lt hlt | exact (Nat.ne_of_lt hlt).symm) hS ge9 k8 k9 hn hpv
        clear k8 k9 hn hS
        obtain ⟨wu, hwu, hS, k8, k9, hn⟩ := hN
        unfold st2 at hwu
        rw [← hwu]
        clear hwu
        exact T_done (by kernel_rfl) (NoPanic.normal (HQ.out _ _ _ _ _ _ _ _ _ _ _ _ _ _ _ _ _ _ _ _ _ _ hS k8 hn k9)) _
    · go_simp
      refine hK.out _ _ (fun _ => keepAQ hS _) ?_
      clear hK K
      try simp only [List.setIfInBounds_toArray, List.set_cons_zero, List.set_cons_succ]
      have ge8 := Below.size hS
      have k8 := blk_next 34 #[.slice none 0 0, .slice none 0 0, .slice none 0 0, .slice none 0 0, .slice none 0 0] wy1 wy1.heap.size rfl
      replace hn := hn.below (below_box (Obj.cells #[.slice none 0 0, .slice none 0 0, .slice none 0 0, .slice none 0 0, .slice none 0 0] 34))
      replace hS := keepAQ hS (Obj.cells #[.slice none 0 0, .slice none 0 0, .slice none 0 0, .slice none 0 0, .slice none 0 0] 34)
      refine T_ready (rs := [3, 5]) (by kernel_rfl) (by simp) ?_
      refine AllT.cons (o := _) rfl (fun K hK => ?_) (AllT.cons (o := _) rfl (fun K hK => ?_) AllT.nil)
      · go_simp
        (go_at_call 15; (refine (HB.out _ hS).mono ?_); rintro e wy3 ⟨rfl, hb⟩)
        refine hK.out _ _ (fun _ => Below.trans hS (hb.mono (Below.size hS))) ?_
        clear hK K
        try simp only [List.setIfInBounds_toArray, List.set_cons_zero, List.set_cons_succ]
        replace hn := hn.below hb
        replace k8 := k8.below hb k8.lt
        replace hS := Below.trans hS (hb.mono (Below.size hS))
        clear hb
        refine T_ready (rs := [5]) (by kernel_rfl) (by simp) ?_
        refine AllT.cons (o := _) rfl (fun K hK => ?_) AllT.nil
        go_simp
        refine hK.out _ _ (fun _ => keepAQ hS _) ?_
        clear hK K
        try simp only [List.setIfInBounds_toArray, List.set_cons_zero, List.set_cons_succ]
        have hlt := k8.lt
        have ge9 := Below.size hS
        have k9 := blk_next 41 #[.string ⟨#[]⟩, .string ⟨#[]⟩] wy3 wy3.heap.size rfl
        replace hn := hn.below (below_box (Obj.cells #[.string ⟨#[]⟩, .string ⟨#[]⟩] 41))
        replace k8 := k8.alloc (Obj.cells #[.string ⟨#[]⟩, .string ⟨#[]⟩] 41)
        replace hS := keepAQ hS (Obj.cells #[.string ⟨#[]⟩, .string ⟨#[]⟩] 41)
        generalize (wy3).alloc (Obj.cells #[.string ⟨#[]⟩, .string ⟨#[]⟩] 41) = wz at *
        refine T_ready (rs := [6]) (by kernel_rfl) (by simp) ?_
        refine AllT.cons (o := _) rfl (fun K hK => ?_) AllT.nil
        obtain ⟨q0, q1, q2, q3, q4, f0, f1, f2, f3, f4⟩ := five_ok k8
        go_simp
        refine hK.out _ _ (fun h => absurd h (by decide)) ?_
        clear hK K
        try simp only [List.setIfInBounds_toArray, List.set_cons_zero, List.set_cons_succ]
        clear q0 q1 q2 q3 q4 f0 f1 f2 f3 f4
        have hN := first_putS (by first | exact Nat.ne_of_lt hlt | exact (Nat.ne_of_lt hlt).symm) hS ge8 k8 k9 hn
        clear k8 k9 hn hS
        obtain ⟨wv, hwv, hS, k8, k9, hn⟩ := hN
        unfold st5 at hwv
        rw [← hwv]
        clear hwv
        refine T_ready (rs := [7]) (by kernel_rfl) (by simp) ?_
        refine AllT.cons (o := _) rfl (fun K hK => ?_) AllT.nil
        have q0 := k9.c0 0 _ rfl
        have q1 := k9.c0 1 _ rfl
        have f0 := k9.free 0
        have f1 := k9.free 1
        go_simp
        refine hK.out _ _ (fun h => absurd h (by decide)) ?_
        clear hK K
        try simp only [List.setIfInBounds_toArray, List.set_cons_zero, List.set_cons_succ]
        clear q0 q1 f0 f1
        have hN := second_putS (u0 := .string (Str lo)) (u1 := .string (Str hi)) (by first | exact Nat.ne_of_lt hlt | exact (Nat.ne_of_lt hlt).symm) hS ge9 k8 k9 hn hpv
        clear k8 k9 hn hS
        obtain ⟨wu, hwu, hS, k8, k9, hn⟩ := hN
        unfold st2 at hwu
        rw [← hwu]
        clear hwu
        exact T_done (by kernel_rfl) (NoPanic.normal (HQ.out _ _ _ _ _ _ _ _ _ _ _ _ _ _ _ _ _ _ _ _ _ _ hS k8 hn k9)) _
      · go_simp
        refine hK.out _ _ (fun _ => keepAQ hS _) ?_
        clear hK K
        try simp only [List.setIfInBounds_toArray, List.set_cons_zero, List.set_cons_succ]
        have hlt : wy1.heap.size < wy1.heap.size + 1 := Nat.lt_succ_self _
        have ge9 : w1.heap.size ≤ wy1.heap.size + 1 := Nat.le_succ_of_le ge8
        have k9 := blk_next 41 #[.string ⟨#[]⟩, .string ⟨#[]⟩] (wy1.alloc (Obj.cells #[.slice none 0 0, .slice none 0 0, .slice none 0 0, .slice none 0 0, .slice none 0 0] 34)) (wy1.heap.size + 1) (by simp)
        replace hn := hn.below (below_box (Obj.cells #[.string ⟨#[]⟩, .string ⟨#[]⟩] 41))
        replace k8 := k8.alloc (Obj.cells #[.string ⟨#[]⟩, .string ⟨#[]⟩] 41)
        replace hS := keepAQ hS (Obj.cells #[.string ⟨#[]⟩, .string ⟨#[]⟩] 41)
        refine T_ready (rs := [3]) (by kernel_rfl) (by simp) ?_
        refine AllT.cons (o := _) rfl (fun K hK => ?_) AllT.nil
        go_simp
        (go_at_call 15; (refine (HB.out _ hS).mono ?_); rintro e wy3 ⟨rfl, hb⟩)
        refine hK.out _ _ (fun _ => Below.trans hS (hb.mono (Below.size hS))) ?_
        clear hK K
        try simp only [List.setIfInBounds_toArray, List.set_cons_zero, List.set_cons_succ]
        replace hn := hn.below hb
        replace k8 := k8.below hb k8.lt
        replace k9 := k9.below hb k9.lt
        replace hS := Below.trans hS (hb.mono (Below.size hS))
        clear hb
        refine T_ready (rs := [6]) (by kernel_rfl) (by simp) ?_
        refine AllT.cons (o := _) rfl (fun K hK => ?_) AllT.nil
        obtain ⟨q0, q1, q2, q3, q4, f0, f1, f2, f3, f4⟩ := five_ok k8
        go_simp
        refine hK.out _ _ (fun h => absurd h (by decide)) ?_
        clear hK K
        try simp only [List.setIfInBounds_toArray, List.set_cons_zero, List.set_cons_succ]
        clear q0 q1 q2 q3 q4 f0 f1 f2 f3 f4
        have hN := first_putS (by first | exact Nat.ne_of_lt hlt | exact (Nat.ne_of_lt hlt).symm) hS ge8 k8 k9 hn
        clear k8 k9 hn hS
        obtain ⟨wv, hwv, hS, k8, k9, hn⟩ := hN
        unfold st5 at hwv
        rw [← hwv]
        clear hwv
        refine T_ready (rs := [7]) (by kernel_rfl) (by simp) ?_
        refine AllT.cons (o := _) rfl (fun K hK => ?_) AllT.nil
        have q0 := k9.c0 0 _ rfl
        have q1 := k9.c0 1 _ rfl
        have f0 := k9.free 0
        have f1 := k9.free 1
        go_simp
        refine hK.out _ _ (fun h => absurd h (by decide)) ?_
        clear hK K
        try simp only [List.setIfInBounds_toArray, List.set_cons_zero, List.set_cons_succ]
        clear q0 q1 f0 f1
        have hN := second_putS (u0 := .string (Str lo)) (u1 := .string (Str hi)) (by first | exact Nat.ne_of_lt hlt | exact (Nat.ne_of_lt hlt).symm) hS ge9 k8 k9 hn hpv
        clear k8 k9 hn hS
        obtain ⟨wu, hwu, hS, k8, k9, hn⟩ := hN
        unfold st2 at hwu
        rw [← hwu]
        clear hwu
        exact T_done (by kernel_rfl) (NoPanic.normal (HQ.out _ _ _ _ _ _ _ _ _ _ _ _ _ _ _ _ _ _ _ _ _ _ hS k8 hn k9)) _
    · go_simp
      refine hK.out _ _ (fun _ => keepAQ hS _) ?_
      clear hK K
      try simp only [List.setIfInBounds_toArray, List.set_cons_zero, List.set_cons_succ]
      have ge9 := Below.size hS
      have k9 := blk_next 41 #[.string ⟨#[]⟩, .string ⟨#[]⟩] wy1 wy1.heap.size rfl
      replace hn := hn.below (below_box (Obj.cells #[.string ⟨#[]⟩, .string ⟨#[]⟩] 41))
      replace hS := keepAQ hS (Obj.cells #[.string ⟨#[]⟩, .string ⟨#[]⟩] 41)
      refine T_ready (rs := [3, 4]) (by kernel_rfl) (by simp) ?_
      refine AllT.cons (o := _) rfl (fun K hK => ?_) (AllT.cons (o := _) rfl (fun K hK => ?_) AllT.nil)
      · go_simp
        (go_at_call 15; (refine (HB.out _ hS).mono ?_); rintro e wy3 ⟨rfl, hb⟩)
        refine hK.out _ _ (fun _ => Below.trans hS (hb.mono (Below.size hS))) ?_
        clear hK K
        try simp only [List.setIfInBounds_toArray, List.set_cons_zero, List.set_cons_succ]
        replace hn := hn.below hb
        replace k9 := k9.below hb k9.lt
        replace hS := Below.trans hS (hb.mono (Below.size hS))
        clear hb
        refine T_ready (rs := [4]) (by kernel_rfl) (by simp) ?_
        refine AllT.cons (o := _) rfl (fun K hK => ?_) AllT.nil
        go_simp
        refine hK.out _ _ (fun _ => keepAQ hS _) ?_
        clear hK K
        try simp only [List.setIfInBounds_toArray, List.set_cons_zero, List.set_cons_succ]
        have hlt := k9.lt
        have ge8 := Below.size hS
        have k8 := blk_next 34 #[.slice none 0 0, .slice none 0 0, .slice none 0 0, .slice none 0 0, .slice none 0 0] wy3 wy3.heap.size rfl
        replace hn := hn.below (below_box (Obj.cells #[.slice none 0 0, .slice none 0 0, .slice none 0 0, .slice none 0 0, .slice none 0 0] 34))
        replace k9 := k9.alloc (Obj.cells #[.slice none 0 0, .slice none 0 0, .slice none 0 0, .slice none 0 0, .slice none 0 0] 34)
        replace hS := keepAQ hS (Obj.cells #[.slice none 0 0, .slice none 0 0, .slice none 0 0, .slice none 0 0, .slice none 0 0] 34)
        generalize (wy3).alloc (Obj.cells #[.slice none 0 0, .slice none 0 0, .slice none 0 0, .slice none 0 0, .slice none 0 0] 34) = wz at *
        refine T_ready (rs := [6]) (by kernel_rfl) (by simp) ?_
        refine AllT.cons (o := _) rfl (fun K hK => ?_) AllT.nil
        obtain ⟨q0, q1, q2, q3, q4, f0, f1, f2, f3, f4⟩ := five_ok k8
        go_simp
        refine hK.out _ _ (fun h => absurd h (by decide)) ?_
        clear hK K
        try simp only [List.setIfInBounds_toArray, List.set_cons_zero, List.set_cons_succ]
        clear q0 q1 q2 q3 q4 f0 f1 f2 f3 f4
        have hN := first_putS (by first | exact Nat.ne_of_lt hlt | exact (Nat.ne_of_lt hlt).symm) hS ge8 k8 k9 hn
        clear k8 k9 hn hS
        obtain ⟨wv, hwv, hS, k8, k9, hn⟩ := hN
        unfold st5 at hwv
        rw [← hwv]
        clear hwv
        refine T_ready (rs := [7]) (by kernel_rfl) (by simp) ?_
        refine AllT.cons (o := _) rfl (fun K hK => ?_) AllT.nil
        have q0 := k9.c0 0 _ rfl
        have q1 := k9.c0 1 _ rfl
        have f0 := k9.free 0
        have f1 := k9.free 1
        go_simp
        refine hK.out _ _ (fun h => absurd h (by decide)) ?_
        clear hK K
        try simp only [List.setIfInBounds_toArray, List.set_cons_zero, List.set_cons_succ]
        clear q0 q1 f0 f1
        have hN := second_putS (u0 := .string (Str lo)) (u1 := .string (Str hi)) (by first | exact Nat.ne_of_lt hlt | exact (Nat.ne_of_lt hlt).symm) hS ge9 k8 k9 hn hpv
        clear k8 k9 hn hS
        obtain ⟨wu, hwu, hS, k8, k9, hn⟩ := hN
        unfold st2 at hwu
        rw [← hwu]
        clear hwu
        exact T_done (by kernel_rfl) (NoPanic.normal (HQ.out _ _ _ _ _ _ _ _ _ _ _ _ _ _ _ _ _ _ _ _ _ _ hS k8 hn k9)) _
      · go_simp
        refine hK.out _ _ (fun _ => keepAQ hS _) ?_
        clear hK K
        try simp only [List.setIfInBounds_toArray, List.set_cons_zero, List.set_cons_succ]
        have hlt : wy1.heap.size < wy1.heap.size + 1 := Nat.lt_succ_self _
        have ge8 : w1.heap.size ≤ wy1.heap.size + 1 := Nat.le_succ_of_le ge9
        have k8 := blk_next 34 #[.slice none 0 0, .slice none 0 0, .slice none 0 0, .slice none 0 0, .slice none 0 0] (wy1.alloc (Obj.cells #[.string ⟨#[]⟩, .string ⟨#[]⟩] 41)) (wy1.heap.size + 1) (by simp)
        replace hn := hn.below (below_box (Obj.cells #[.slice none 0 0, .slice none 0 0, .slice none 0 0, .slice none 0 0, .slice none 0 0] 34))
        replace k9 := k9.alloc (Obj.cells #[.slice none 0 0, .slice none 0 0, .slice none 0 0, .slice none 0 0, .slice none 0 0] 34)
        replace hS := keepAQ hS (Obj.cells #[.slice none 0 0, .slice none 0 0, .slice none 0 0, .slice none 0 0, .slice none 0 0] 34)
        refine T_ready (rs := [3]) (by kernel_rfl) (by simp) ?_
        refine AllT.cons (o := _) rfl (fun K hK => ?_) AllT.nil
        go_simp
        (go_at_call 15; (refine (HB.out _ hS).mono ?_); rintro e wy3 ⟨rfl, hb⟩)
        refine hK.out _ _ (fun _ => Below.trans hS (hb.mono (Below.size hS))) ?_
        clear hK K
        try simp only [List.setIfInBounds_toArray, List.set_cons_zero, List.set_cons_succ]
        replace hn := hn.below hb
        replace k8 := k8.below hb k8.lt
        replace k9 := k9.below hb k9.lt
        replace hS := Below.trans hS (hb.mono (Below.size hS))
        clear hb
        refine T_ready (rs := [6]) (by kernel_rfl) (by simp) ?_
        refine AllT.cons (o := _) rfl (fun K hK => ?_) AllT.nil
        obtain ⟨q0, q1, q2, q3, q4, f0, f1, f2, f3, f4⟩ := five_ok k8
        go_simp
        refine hK.out _ _ (fun h => absurd h (by decide)) ?_
        clear hK K
        try simp only [List.setIfInBounds_toArray, List.set_cons_zero, List.set_cons_succ]
        clear q0 q1 q2 q3 q4 f0 f1 f2 f3 f4
        have hN := first_putS (by first | exact Nat.ne_of_lt hlt | exact (Nat.ne_of_lt hlt).symm) hS ge8 k8 k9 hn
        clear k8 k9 hn hS
        obtain ⟨wv, hwv, hS, k8, k9, hn⟩ := hN
        unfold st5 at hwv
        rw [← hwv]
        clear hwv
        refine T_ready (rs := [7]) (by kernel_rfl) (by simp) ?_
        refine AllT.cons (o := _) rfl (fun K hK => ?_) AllT.nil
        have q0 := k9.c0 0 _ rfl
        have q1 := k9.c0 1 _ rfl
        have f0 := k9.free 0
        have f1 := k9.free 1
        go_simp
        refine hK.out _ _ (fun h => absurd h (by decide)) ?_
        clear hK K
        try simp only [List.setIfInBounds_toArray, List.set_cons_zero, List.set_cons_succ]
        clear q0 q1 f0 f1
        have hN := second_putS (u0 := .string (Str lo)) (u1 := .string (Str hi)) (by first | exact Nat.ne_of_lt hlt | exact (Nat.ne_of_lt hlt).symm) hS ge9 k8 k9 hn hpv
        clear k8 k9 hn hS
        obtain ⟨wu, hwu, hS, k8, k9, hn⟩ := hN
        unfold st2 at hwu
        rw [← hwu]
        clear hwu
        exact T_done (by kernel_rfl) (NoPanic.normal (HQ.out _ _ _ _ _ _ _ _ _ _ _ _ _ _ _ _ _ _ _ _ _ _ hS k8 hn k9)) _
  · go_simp
    refine hK.out _ _ (fun _ => keepAQ hS _) ?_
    clear hK K
    try simp only [List.setIfInBounds_toArray, List.set_cons_zero, List.set_cons_succ]
    have ge8 := Below.size hS
    have k8 := blk_next 34 #[.slice none 0 0, .slice none 0 0, .slice none 0 0, .slice none 0 0, .slice none 0 0] wd wd.heap.size rfl
    replace hS := keepAQ hS (Obj.cells #[.slice none 0 0, .slice none 0 0, .slice none 0 0, .slice none 0 0, .slice none 0 0] 34)
    refine T_ready (rs := [1, 5]) (by kernel_rfl) (by simp) ?_
    refine AllT.cons (o := _) rfl (fun K hK => ?_) (AllT.cons (o := _) rfl (fun K hK => ?_) AllT.nil)
    · go_simp
      (go_at_call 14; (refine (HA.out _ hS).mono ?_); rintro e wy1 ⟨v2, rfl, hn0, hb⟩; have hn := made_is hn0; clear hn0; obtain ⟨x0, x1, x2, x3, x4, x5, x6, x7, x8, x9, x10, x11, x12, x13, x14, rfl⟩ := node_slices hn)
      refine hK.out _ _ (fun _ => Below.trans hS (hb.mono (Below.size hS))) ?_
      clear hK K
      try simp only [List.setIfInBounds_toArray, List.set_cons_zero, List.set_cons_succ]
      replace k8 := k8.below hb k8.lt
      replace hS := Below.trans hS (hb.mono (Below.size hS))
      clear hb
      refine T_ready (rs := [3, 5]) (by kernel_rfl) (by simp) ?_
      refine AllT.cons (o := _) rfl (fun K hK => ?_) (AllT.cons (o := _) rfl (fun K hK => ?_) AllT.nil)
      · go_simp
        (go_at_call 15; (refine (HB.out _ hS).mono ?_); rintro e wy3 ⟨rfl, hb⟩)
        refine hK.out _ _ (fun _ => Below.trans hS (hb.mono (Below.size hS))) ?_
        clear hK K
        try simp only [List.setIfInBounds_toArray, List.set_cons_zero, List.set_cons_succ]
        replace hn := hn.below hb
        replace k8 := k8.below hb k8.lt
        replace hS := Below.trans hS (hb.mono (Below.size hS))
        clear hb
        refine T_ready (rs := [5]) (by kernel_rfl) (by simp) ?_
        refine AllT.cons (o := _) rfl (fun K hK => ?_) AllT.nil
        go_simp
        refine hK.out _ _ (fun _ => keepAQ hS _) ?_
        clear hK K
        try simp only [List.setIfInBounds_toArray, List.set_cons_zero, List.set_cons_succ]
        have hlt := k8.lt
        have ge9 := Below.size hS
        have k9 := blk_next 41 #[.string ⟨#[]⟩, .string ⟨#[]⟩] wy3 wy3.heap.size rfl
        replace hn := hn.below (below_box (Obj.cells #[.string ⟨#[]⟩, .string ⟨#[]⟩] 41))
        replace k8 := k8.alloc (Obj.cells #[.string ⟨#[]⟩, .string ⟨#[]⟩] 41)
        replace hS := keepAQ hS (Obj.cells #[.string ⟨#[]⟩, .string ⟨#[]⟩] 41)
        generalize (wy3).alloc (Obj.cells #[.string ⟨#[]⟩, .string ⟨#[]⟩] 41) = wz at *
        refine T_ready (rs := [6]) (by kernel_rfl) (by simp) ?_
        refine AllT.cons (o := _) rfl (fun K hK => ?_) AllT.nil
        obtain ⟨q0, q1, q2, q3, q4, f0, f1, f2, f3, f4⟩ := five_ok k8
        go_simp
        refine hK.out _ _ (fun h => absurd h (by decide)) ?_
        clear hK K
        try simp only [List.setIfInBounds_toArray, List.set_cons_zero, List.set_cons_succ]
        clear q0 q1 q2 q3 q4 f0 f1 f2 f3 f4
        have hN := first_putS (by first | exact Nat.ne_of_lt hlt | exact (Nat.ne_of_lt hlt).symm) hS ge8 k8 k9 hn
        clear k8 k9 hn hS
        obtain ⟨wv, hwv, hS, k8, k9, hn⟩ := hN
        unfold st5 at hwv
        rw [← hwv]
        clear hwv
        refine T_ready (rs := [7]) (by kernel_rfl) (by simp) ?_
        refine AllT.cons (o := _) rfl (fun K hK => ?_) AllT.nil
        have q0 := k9.c0 0 _ rfl
        have q1 := k9.c0 1 _ rfl
        have f0 := k9.free 0
        have f1 := k9.free 1
        go_simp
        refine hK.out _ _ (fun h => absurd h (by decide)) ?_
        clear hK K
        try simp only [List.setIfInBounds_toArray, List.set_cons_zero, List.set_cons_succ]
        clear q0 q1 f0 f1
        have hN := second_putS (u0 := .string (Str lo)) (u1 := .string (Str hi)) (by first | exact Nat.ne_of_lt hlt | exact (Nat.ne_of_lt hlt).symm) hS ge9 k8 k9 hn hpv
        clear k8 k9 hn hS
        obtain ⟨wu, hwu, hS, k8, k9, hn⟩ := hN
        unfold st2 at hwu
        rw [← hwu]
        clear hwu
        exact T_done (by kernel_rfl) (NoPanic.normal (HQ.out _ _ _ _ _ _ _ _ _ _ _ _ _ _ _ _ _ _ _ _ _ _ hS k8 hn k9)) _
      · go_simp
        refine hK.out _ _ (fun _ => keepAQ hS _) ?_
        clear hK K
        try simp only [List.setIfInBounds_toArray, List.set_cons_zero, List.set_cons_succ]
        have hlt := k8.lt
        have ge9 := Below.size hS
        have k9 := blk_next 41 #[.string ⟨#[]⟩, .string ⟨#[]⟩] wy1 wy1.heap.size rfl
        replace hn := hn.below (below_box (Obj.cells #[.string ⟨#[]⟩, .string ⟨#[]⟩] 41))
        replace k8 := k8.alloc (Obj.cells #[.string ⟨#[]⟩, .string ⟨#[]⟩] 41)
        replace hS := keepAQ hS (Obj.cells #[.string ⟨#[]⟩, .string ⟨#[]⟩] 41)
        refine T_ready (rs := [3]) (by kernel_rfl) (by simp) ?_
        refine AllT.cons (o := _) rfl (fun K hK => ?_) AllT.nil
        go_simp
        (go_at_call 15; (refine (HB.out _ hS).mono ?_); rintro e wy3 ⟨rfl, hb⟩)
        refine hK.out _ _ (fun _ => Below.trans hS (hb.mono (Below.size hS))) ?_
        clear hK K
        try simp only [List.setIfInBounds_toArray, List.set_cons_zero, List.set_cons_succ]
        replace hn := hn.below hb
        replace k8 := k8.below hb k8.lt
        replace k9 := k9.below hb k9.lt
        replace hS := Below.trans hS (hb.mono (Below.size hS))
        clear hb
        refine T_ready (rs := [6]) (by kernel_rfl) (by simp) ?_
        refine AllT.cons (o := _) rfl (fun K hK => ?_) AllT.nil
        obtain ⟨q0, q1, q2, q3, q4, f0, f1, f2, f3, f4⟩ := five_ok k8
        go_simp
        refine hK.out _ _ (fun h => absurd h (by decide)) ?_
        clear hK K
        try simp only [List.setIfInBounds_toArray, List.set_cons_zero, List.set_cons_succ]
        clear q0 q1 q2 q3 q4 f0 f1 f2 f3 f4
        have hN := first_putS (by first | exact Nat.ne_of_lt hlt | exact (Nat.ne_of_lt hlt).symm) hS ge8 k8 k9 hn
        clear k8 k9 hn hS
        obtain ⟨wv, hwv, hS, k8, k9, hn⟩ := hN
        unfold st5 at hwv
        rw [← hwv]
        clear hwv
        refine T_ready (rs := [7]) (by kernel_rfl) (by simp) ?_
        refine AllT.cons (o := _) rfl (fun K hK => ?_) AllT.nil
        have q0 := k9.c0 0 _ rfl
        have q1 := k9.c0 1 _ rfl
        have f0 := k9.free 0
        have f1 := k9.free 1
        go_simp
        refine hK.out _ _ (fun h => absurd h (by decide)) ?_
        clear hK K
        try simp only [List.setIfInBounds_toArray, List.set_cons_zero, List.set_cons_succ]
        clear q0 q1 f0 f1
        have hN := second_putS (u0 := .string (Str lo)) (u1 := .string (Str hi)) (by first | exact Nat.ne_of_lt hlt | exact (Nat.ne_of_lt hlt).symm) hS ge9 k8 k9 hn hpv
        clear k8 k9 hn hS
        obtain ⟨wu, hwu, hS, k8, k9, hn⟩ := hN
        unfold st2 at hwu
        rw [← hwu]
        clear hwu
        exact T_done (by kernel_rfl) (NoPanic.normal (HQ.out _ _ _ _ _ _ _ _ _ _ _ _ _ _ _ _ _ _ _ _ _ _ hS k8 hn k9)) _
    · go_simp
      refine hK.out _ _ (fun _ => keepAQ hS _) ?_
      clear hK K
      try simp only [List.setIfInBounds_toArray, List.set_cons_zero, List.set_cons_succ]
      have hlt : wd.heap.size < wd.heap.size + 1 := Nat.lt_succ_self _
      have ge9 : w1.heap.size ≤ wd.heap.size + 1 := Nat.le_succ_of_le ge8
      have k9 := blk_next 41 #[.string ⟨#[]⟩, .string ⟨#[]⟩] (wd.alloc (Obj.cells #[.slice none 0 0, .slice none 0 0, .slice none 0 0, .slice none 0 0, .slice none 0 0] 34)) (wd.heap.size + 1) (by simp)
      replace k8 := k8.alloc (Obj.cells #[.string ⟨#[]⟩, .string ⟨#[]⟩] 41)
      replace hS := keepAQ hS (Obj.cells #[.string ⟨#[]⟩, .string ⟨#[]⟩] 41)
      refine T_ready (rs := [1]) (by kernel_rfl) (by simp) ?_
      refine AllT.cons (o := _) rfl (fun K hK => ?_) AllT.nil
      go_simp
      (go_at_call 14; (refine (HA.out _ hS).mono ?_); rintro e wy1 ⟨v2, rfl, hn0, hb⟩; have hn := made_is hn0; clear hn0; obtain ⟨x0, x1, x2, x3, x4, x5, x6, x7, x8, x9, x10, x11, x12, x13, x14, rfl⟩ := node_slices hn)
      refine hK.out _ _ (fun _ => Below.trans hS (hb.mono (Below.size hS))) ?_
      clear hK K
      try simp only [List.setIfInBounds_toArray, List.set_cons_zero, List.set_cons_succ]
      replace k8 := k8.below hb k8.lt
      replace k9 := k9.below hb k9.lt
      replace hS := Below.trans hS (hb.mono (Below.size hS))
      clear hb
      refine T_ready (rs := [3]) (by kernel_rfl) (by simp) ?_
      refine AllT.cons (o := _) rfl (fun K hK => ?_) AllT.nil
      go_simp
      (go_at_call 15; (refine (HB.out _ hS).mono ?_); rintro e wy3 ⟨rfl, hb⟩)
      refine hK.out _ _ (fun _ => Below.trans hS (hb.mono (Below.size hS))) ?_
      clear hK K
      try simp only [List.setIfInBounds_toArray, List.set_cons_zero, List.set_cons_succ]
      replace hn := hn.below hb
      replace k8 := k8.below hb k8.lt
      replace k9 := k9.below hb k9.lt
      replace hS := Below.trans hS (hb.mono (Below.size hS))
      clear hb
      refine T_ready (rs := [6]) (by kernel_rfl) (by simp) ?_
      refine AllT.cons (o := _) rfl (fun K hK => ?_) AllT.nil
      obtain ⟨q0, q1, q2, q3, q4, f0, f1, f2, f3, f4⟩ := five_ok k8
      go_simp
      refine hK.out _ _ (fun h => absurd h (by decide)) ?_
      clear hK K
      try simp only [List.setIfInBounds_toArray, List.set_cons_zero, List.set_cons_succ]
      clear q0 q1 q2 q3 q4 f0 f1 f2 f3 f4
      have hN := first_putS (by first | exact Nat.ne_of_lt hlt | exact (Nat.ne_of_lt hlt).symm) hS ge8 k8 k9 hn
      clear k8 k9 hn hS
      obtain ⟨wv, hwv, hS, k8, k9, hn⟩ := hN
      unfold st5 at hwv
      rw [← hwv]
      clear hwv
      refine T_ready (rs := [7]) (by kernel_rfl) (by simp) ?_
      refine AllT.cons (o := _) rfl (fun K hK => ?_) AllT.nil
      have q0 := k9.c0 0 _ rfl
      have q1 := k9.c0 1 _ rfl
      have f0 := k9.free 0
      have f1 := k9.free 1
      go_simp
      refine hK.out _ _ (fun h => absurd h (by decide)) ?_
      clear hK K
      try simp only [List.setIfInBounds_toArray, List.set_cons_zero, List.set_cons_succ]
      clear q0 q1 f0 f1
      have hN := second_putS (u0 := .string (Str lo)) (u1 := .string (Str hi)) (by first | exact Nat.ne_of_lt hlt | exact (Nat.ne_of_lt hlt).symm) hS ge9 k8 k9 hn hpv
      clear k8 k9 hn hS
      obtain ⟨wu, hwu, hS, k8, k9, hn⟩ := hN
      unfold st2 at hwu
      rw [← hwu]
      clear hwu
      exact T_done (by kernel_rfl) (NoPanic.normal (HQ.out _ _ _ _ _ _ _ _ _ _ _ _ _ _ _ _ _ _ _ _ _ _ hS k8 hn k9)) _
  · go_simp
    refine hK.out _ _ (fun _ => keepAQ hS _) ?_
    clear hK K
    try simp only [List.setIfInBounds_toArray, List.set_cons_zero, List.set_cons_succ]
    have ge9 := Below.size hS
    have k9 := blk_next 41 #[.string ⟨#[]⟩, .string ⟨#[]⟩] wd wd.heap.size rfl
    replace hS := keepAQ hS (Obj.cells #[.string ⟨#[]⟩, .string ⟨#[]⟩] 41)
    refine T_ready (rs := [1, 4]) (by kernel_rfl) (by simp) ?_
    refine AllT.cons (o := _) rfl (fun K hK => ?_) (AllT.cons (o := _) rfl (fun K hK => ?_) AllT.nil)
    · go_simp
      (go_at_call 14; (refine (HA.out _ hS).mono ?_); rintro e wy1 ⟨v2, rfl, hn0, hb⟩; have hn := made_is hn0; clear hn0; obtain ⟨x0, x1, x2, x3, x4, x5, x6, x7, x8, x9, x10, x11, x12, x13, x14, rfl⟩ := node_slices hn)
      refine hK.out _ _ (fun _ => Below.trans hS (hb.mono (Below.size hS))) ?_
      clear hK K
      try simp only [List.setIfInBounds_toArray, List.set_cons_zero, List.set_cons_succ]
      replace k9 := k9.below hb k9.lt
      replace hS := Below.trans hS (hb.mono (Below.size hS))
      clear hb
      refine T_ready (rs := [3, 4]) (by kernel_rfl) (by simp) ?_
      refine AllT.cons (o := _) rfl (fun K hK => ?_) (AllT.cons (o := _) rfl (fun K hK => ?_) AllT.nil)
      · go_simp
        (go_at_call 15; (refine (HB.out _ hS).mono ?_); rintro e wy3 ⟨rfl, hb⟩)
        refine hK.out _ _ (fun _ => Below.trans hS (hb.mono (Below.size hS))) ?_
        clear hK K
        try simp only [List.setIfInBounds_toArray, List.set_cons_zero, List.set_cons_succ]
        replace hn := hn.below hb
        replace k9 := k9.below hb k9.lt
        replace hS := Below.trans hS (hb.mono (Below.size hS))
        clear hb
        refine T_ready (rs := [4]) (by kernel_rfl) (by simp) ?_
        refine AllT.cons (o := _) rfl (fun K hK => ?_) AllT.nil
        go_simp
        refine hK.out _ _ (fun _ => keepAQ hS _) ?_
        clear hK K
        try simp only [List.setIfInBounds_toArray, List.set_cons_zero, List.set_cons_succ]
        have hlt := k9.lt
        have ge8 := Below.size hS
        have k8 := blk_next 34 #[.slice none 0 0, .slice none 0 0, .slice none 0 0, .slice none 0 0, .slice none 0 0] wy3 wy3.heap.size rfl
        replace hn := hn.below (below_box (Obj.cells #[.slice none 0 0, .slice none 0 0, .slice none 0 0, .slice none 0 0, .slice none 0 0] 34))
        replace k9 := k9.alloc (Obj.cells #[.slice none 0 0, .slice none 0 0, .slice none 0 0, .slice none 0 0, .slice none 0 0] 34)
        replace hS := keepAQ hS (Obj.cells #[.slice none 0 0, .slice none 0 0, .slice none 0 0, .slice none 0 0, .slice none 0 0] 34)
        generalize (wy3).alloc (Obj.cells #[.slice none 0 0, .slice none 0 0, .slice none 0 0, .slice none 0 0, .slice none 0 0] 34) = wz at *
        refine T_ready (rs := [6]) (by kernel_rfl) (by simp) ?_
        refine AllT.cons (o := _) rfl (fun K hK => ?_) AllT.nil
        obtain ⟨q0, q1, q2, q3, q4, f0, f1, f2, f3, f4⟩ := five_ok k8
        go_simp
        refine hK.out _ _ (fun h => absurd h (by decide)) ?_
        clear hK K
        try simp only [List.setIfInBounds_toArray, List.set_cons_zero, List.set_cons_succ]
        clear q0 q1 q2 q3 q4 f0 f1 f2 f3 f4
        have hN := first_putS (by first | exact Nat.ne_of_lt hlt | exact (Nat.ne_of_lt hlt).symm) hS ge8 k8 k9 hn
        clear k8 k9 hn hS
        obtain ⟨wv, hwv, hS, k8, k9, hn⟩ := hN
        unfold st5 at hwv
        rw [← hwv]
        clear hwv
        refine T_ready (rs := [7]) (by kernel_rfl) (by simp) ?_
        refine AllT.cons (o := _) rfl (fun K hK => ?_) AllT.nil
        have q0 := k9.c0 0 _ rfl
        have q1 := k9.c0 1 _ rfl
        have f0 := k9.free 0
        have f1 := k9.free 1
        go_simp
        refine hK.out _ _ (fun h => absurd h (by decide)) ?_
        clear hK K
        try simp only [List.setIfInBounds_toArray, List.set_cons_zero, List.set_cons_succ]
        clear q0 q1 f0 f1
        have hN := second_putS (u0 := .string (Str lo)) (u1 := .string (Str hi)) (by first | exact Nat.ne_of_lt hlt | exact (Nat.ne_of_lt hlt).symm) hS ge9 k8 k9 hn hpv
        clear k8 k9 hn hS
        obtain ⟨wu, hwu, hS, k8, k9, hn⟩ := hN
        unfold st2 at hwu
        rw [← hwu]
        clear hwu
        exact T_done (by kernel_rfl) (NoPanic.normal (HQ.out _ _ _ _ _ _ _ _ _ _ _ _ _ _ _ _ _ _ _ _ _ _ hS k8 hn k9)) _
      · go_simp
        refine hK.out _ _ (fun _ => keepAQ hS _) ?_
        clear hK K
        try simp only [List.setIfInBounds_toArray, List.set_cons_zero, List.set_cons_succ]
        have hlt := k9.lt
        have ge8 := Below.size hS
        have k8 := blk_next 34 #[.slice none 0 0, .slice none 0 0, .slice none 0 0, .slice none 0 0, .slice none 0 0] wy1 wy1.heap.size rfl
        replace hn := hn.below (below_box (Obj.cells #[.slice none 0 0, .slice none 0 0, .slice none 0 0, .slice none 0 0, .slice none 0 0] 34))
        replace k9 := k9.alloc (Obj.cells #[.slice none 0 0, .slice none 0 0, .slice none 0 0, .slice none 0 0, .slice none 0 0] 34)
        replace hS := keepAQ hS (Obj.cells #[.slice none 0 0, .slice none 0 0, .slice none 0 0, .slice none 0 0, .slice none 0 0] 34)
        refine T_ready (rs := [3]) (by kernel_rfl) (by simp) ?_
        refine AllT.cons (o := _) rfl (fun K hK => ?_) AllT.nil
        go_simp
        (go_at_call 15; (refine (HB.out _ hS).mono ?_); rintro e wy3 ⟨rfl, hb⟩)
        refine hK.out _ _ (fun _ => Below.trans hS (hb.mono (Below.size hS))) ?_
        clear hK K
        try simp only [List.setIfInBounds_toArray, List.set_cons_zero, List.set_cons_succ]
        replace hn := hn.below hb
        replace k8 := k8.below hb k8.lt
        replace k9 := k9.below hb k9.lt
        replace hS := Below.trans hS (hb.mono (Below.size hS))
        clear hb
        refine T_ready (rs := [6]) (by kernel_rfl) (by simp) ?_
        refine AllT.cons (o := _) rfl (fun K hK => ?_) AllT.nil
        obtain ⟨q0, q1, q2, q3, q4, f0, f1, f2, f3, f4⟩ := five_ok k8
        go_simp
        refine hK.out _ _ (fun h => absurd h (by decide)) ?_
        clear hK K
        try simp only [List.setIfInBounds_toArray, List.set_cons_zero, List.set_cons_succ]
        clear q0 q1 q2 q3 q4 f0 f1 f2 f3 f4
        have hN := first_putS (by first | exact Nat.ne_of_lt hlt | exact (Nat.ne_of_lt hlt).symm) hS ge8 k8 k9 hn
        clear k8 k9 hn hS
        obtain ⟨wv, hwv, hS, k8, k9, hn⟩ := hN
        unfold st5 at hwv
        rw [← hwv]
        clear hwv
        refine T_ready (rs := [7]) (by kernel_rfl) (by simp) ?_
        refine AllT.cons (o := _) rfl (fun K hK => ?_) AllT.nil
        have q0 := k9.c0 0 _ rfl
        have q1 := k9.c0 1 _ rfl
        have f0 := k9.free 0
        have f1 := k9.free 1
        go_simp
        refine hK.out _ _ (fun h => absurd h (by decide)) ?_
        clear hK K
        try simp only [List.setIfInBounds_toArray, List.set_cons_zero, List.set_cons_succ]
        clear q0 q1 f0 f1
        have hN := second_putS (u0 := .string (Str lo)) (u1 := .string (Str hi)) (by first | exact Nat.ne_of_lt hlt | exact (Nat.ne_of_lt hlt).symm) hS ge9 k8 k9 hn hpv
        clear k8 k9 hn hS
        obtain ⟨wu, hwu, hS, k8, k9, hn⟩ := hN
        unfold st2 at hwu
        rw [← hwu]
        clear hwu
        exact T_done (by kernel_rfl) (NoPanic.normal (HQ.out _ _ _ _ _ _ _ _ _ _ _ _ _ _ _ _ _ _ _ _ _ _ hS k8 hn k9)) _
    · go_simp
      refine hK.out _ _ (fun _ => keepAQ hS _) ?_
      clear hK K
      try simp only [List.setIfInBounds_toArray, List.set_cons_zero, List.set_cons_succ]
      have hlt : wd.heap.size < wd.heap.size + 1 := Nat.lt_succ_self _
      have ge8 : w1.heap.size ≤ wd.heap.size + 1 := Nat.le_succ_of_le ge9
      have k8 := blk_next 34 #[.slice none 0 0, .slice none 0 0, .slice none 0 0, .slice none 0 0, .slice none 0 0] (wd.alloc (Obj.cells #[.string ⟨#[]⟩, .string ⟨#[]⟩] 41)) (wd.heap.size + 1) (by simp)
      replace k9 := k9.alloc (Obj.cells #[.slice none 0 0, .slice none 0 0, .slice none 0 0, .slice none 0 0, .slice none 0 0] 34)
      replace hS := keepAQ hS (Obj.cells #[.slice none 0 0, .slice none 0 0, .slice none 0 0, .slice none 0 0, .slice none 0 0] 34)
      refine T_ready (rs := [1]) (by kernel_rfl) (by simp) ?_
      refine AllT.cons (o := _) rfl (fun K hK => ?_) AllT.nil
      go_simp
      (go_at_call 14; (refine (HA.out _ hS).mono ?_); rintro e wy1 ⟨v2, rfl, hn0, hb⟩; have hn := made_is hn0; clear hn0; obtain ⟨x0, x1, x2, x3, x4, x5, x6, x7, x8, x9, x10, x11, x12, x13, x14, rfl⟩ := node_slices hn)
      refine hK.out _ _ (fun _ => Below.trans hS (hb.mono (Below.size hS))) ?_
      clear hK K
      try simp only [List.setIfInBounds_toArray, List.set_cons_zero, List.set_cons_succ]
      replace k8 := k8.below hb k8.lt
      replace k9 := k9.below hb k9.lt
      replace hS := Below.trans hS (hb.mono (Below.size hS))
      clear hb
      refine T_ready (rs := [3]) (by kernel_rfl) (by simp) ?_
      refine AllT.cons (o := _) rfl (fun K hK => ?_) AllT.nil
      go_simp
      (go_at_call 15; (refine (HB.out _ hS).mono ?_); rintro e wy3 ⟨rfl, hb⟩)
      refine hK.out _ _ (fun _ => Below.trans hS (hb.mono (Below.size hS))) ?_
      clear hK K
      try simp only [List.setIfInBounds_toArray, List.set_cons_zero, List.set_cons_succ]
      replace hn := hn.below hb
      replace k8 := k8.below hb k8.lt
      replace k9 := k9.below hb k9.lt
      replace hS := Below.trans hS (hb.mono (Below.size hS))
      clear hb
      refine T_ready (rs := [6]) (by kernel_rfl) (by simp) ?_
      refine AllT.cons (o := _) rfl (fun K hK => ?_) AllT.nil
      obtain ⟨q0, q1, q2, q3, q4, f0, f1, f2, f3, f4⟩ := five_ok k8
      go_simp
      refine hK.out _ _ (fun h => absurd h (by decide)) ?_
      clear hK K
      try simp only [List.setIfInBounds_toArray, List.set_cons_zero, List.set_cons_succ]
      clear q0 q1 q2 q3 q4 f0 f1 f2 f3 f4
      have hN := first_putS (by first | exact Nat.ne_of_lt hlt | exact (Nat.ne_of_lt hlt).symm) hS ge8 k8 k9 hn
      clear k8 k9 hn hS
      obtain ⟨wv, hwv, hS, k8, k9, hn⟩ := hN
      unfold st5 at hwv
      rw [← hwv]
      clear hwv
      refine T_ready (rs := [7]) (by kernel_rfl) (by simp) ?_
      refine AllT.cons (o := _) rfl (fun K hK => ?_) AllT.nil
      have q0 := k9.c0 0 _ rfl
      have q1 := k9.c0 1 _ rfl
      have f0 := k9.free 0
      have f1 := k9.free 1
      go_simp
      refine hK.out _ _ (fun h => absurd h (by decide)) ?_
      clear hK K
      try simp only [List.setIfInBounds_toArray, List.set_cons_zero, List.set_cons_succ]
      clear q0 q1 f0 f1
      have hN := second_putS (u0 := .string (Str lo)) (u1 := .string (Str hi)) (by first | exact Nat.ne_of_lt hlt | exact (Nat.ne_of_lt hlt).symm) hS ge9 k8 k9 hn hpv
      clear k8 k9 hn hS
      obtain ⟨wu, hwu, hS, k8, k9, hn⟩ := hN
      unfold st2 at hwu
      rw [← hwu]
      clear hwu
      exact T_done (by kernel_rfl) (NoPanic.normal (HQ.out _ _ _ _ _ _ _ _ _ _ _ _ _ _ _ _ _ _ _ _ _ _ hS k8 hn k9)) _

end Go.Proofs.YtmbfghbhajmpiaaGreat
