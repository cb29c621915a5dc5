/-
  Walks: the region of reference 10's Made that lays the node.
-/
import Derived.Test.YtmbfghbhajmpiaaGreatYDM
import Derived.Deep.RegionHeld3
namespace Go.Proofs.YtmbfghbhajmpiaaGreat
open Go.RowKit Go.Sort
set_option linter.unusedVariables false

theorem box_kept {W y : World} {cs0 : Array Value} {T0 : TypeId} (h : ∀ (b : Nat) (T : TypeId) (cs : Array Value), Blk (W.alloc (.cells cs0 T0)).drew b T cs → Blk y b T cs) : Blk y W.heap.size T0 cs0 := h _ _ _ (show Blk (W.alloc (.cells cs0 T0)).drew _ _ _ from Blk.new W T0 cs0)
theorem blk_here (T : TypeId) (cs : Array Value) (w : World) : Blk (w.alloc (.cells cs T)) w.heap.size T cs := Blk.new _ _ _
noncomputable def regM9 : Code := ((Tryz.f14.body.bind (codeReg 9)).getD .skip)
set_option maxRecDepth 100000 in
set_option maxHeartbeats 8000000 in
theorem regM9_w (w5 : World) (X n2 c2 n5 c5 np c6 K M L : Nat) (p2 p5 p6 : Option Addr) (lm : List Ms)
    (hy1 : ∀ wx, Below w5.heap.size w5 wx → wx.cell? ⟨X, 1, none⟩ = some (.slice p2 n2 c2)) (hy4 : ∀ wx, Below w5.heap.size w5 wx → wx.cell? ⟨X, 4, none⟩ = some (.slice p5 n5 c5))
    (hm1 : min ((n2 : Nat) : Int) 10 = (K : Int)) (hm2 : wrap64 ((K : Int) - 1) = (M : Int)) (hm7 : IntKind.i64.wrap ((K : Int) - 1) = (M : Int)) (hm3 : min ((np : Nat) : Int) (M : Int) = (L : Int)) (hm4 : (0 : Int) ≤ (L : Int)) (hm5 : (L : Int) ≤ (np : Int)) (hm6 : (L : Int) ≤ (c6 : Int))
    (hL : ∀ wx, Below w5.heap.size w5 wx → Calls Tryz.prog 44 #[.slice p5 n5 c5, .int .i64 12] wx fun e w' => ∃ a c, e = .returned (.slice a lm.length c) ∧ OwnM w' w5.heap.size (.slice a lm.length c) lm ∧ Below w5.heap.size w5 w' ∧ (∀ b T cs, Blk wx b T cs → Blk w' b T cs))
    (s0 s2 s4 s5 s6 s7 s8 s9 s10 s11 s12 s13 s14 s15 s16 s17 s18 s19 s20 s21 s22 s23 s24 s25 s26 s27 s28 s29 s30 s31 s32 s33 s34 s35 s36 s37 s38 s39 s40 s41 s42 s43 s44 s45 s46 s47 s48 s49 s50 s51 s52 s53 s54 s55 s56 s57 s58 s59 s60 s61 s62 s63 s64 s65 s66 s67 s68 s69 s70 s71 s72 s73 s74 s75 s76 s77 s78 s79 s80 s81 s82 s83 s84 s85 s86 s87 s88 s89 s90 s91 s92 s93 s94 s95 s96 s97 s98 s99 s100 s101 s102 s103 s104 s105 s106 s107 s108 : Value) (Q : Exit → Act → World → Prop)
    (hQ : ∀ (t36 t37 t38 t39 t40 t41 t42 t43 t44 t45 t46 t47 t48 t49 : Value) (a : Option Addr) (c b : Nat) (wx : World), w5.heap.size ≤ b → Blk wx b 34 #[.slice none 0 0, .slice p6 L c6, .slice none 0 0, .slice none 0 0, .slice a lm.length c] → OwnM wx w5.heap.size (.slice a lm.length c) lm → Below w5.heap.size w5 wx →
      Q .normal ⟨#[s0, .pointer (some ⟨X, 0, none⟩), s2, .slice p6 np c6, s4, .pointer (some ⟨b, 0, none⟩), s6, s7, s8, s9, s10, s11, s12, s13, s14, s15, s16, s17, s18, s19, s20, s21, s22, s23, s24, s25, s26, s27, s28, s29, s30, s31, s32, s33, s34, s35, t36, t37, t38, t39, t40, t41, t42, t43, t44, t45, t46, t47, t48, t49, s50, s51, s52, s53, s54, s55, s56, s57, s58, s59, s60, s61, s62, s63, s64, s65, s66, s67, s68, s69, s70, s71, s72, s73, s74, s75, s76, s77, s78, s79, s80, s81, s82, s83, s84, s85, s86, s87, s88, s89, s90, s91, s92, s93, s94, s95, s96, s97, s98, s99, s100, s101, s102, s103, s104, s105, s106, s107, s108], []⟩ wx) :
    regM9.wp Tryz.prog Q ⟨#[s0, .pointer (some ⟨X, 0, none⟩), s2, .slice p6 np c6, s4, s5, s6, s7, s8, s9, s10, s11, s12, s13, s14, s15, s16, s17, s18, s19, s20, s21, s22, s23, s24, s25, s26, s27, s28, s29, s30, s31, s32, s33, s34, s35, s36, s37, s38, s39, s40, s41, s42, s43, s44, s45, s46, s47, s48, s49, s50, s51, s52, s53, s54, s55, s56, s57, s58, s59, s60, s61, s62, s63, s64, s65, s66, s67, s68, s69, s70, s71, s72, s73, s74, s75, s76, s77, s78, s79, s80, s81, s82, s83, s84, s85, s86, s87, s88, s89, s90, s91, s92, s93, s94, s95, s96, s97, s98, s99, s100, s101, s102, s103, s104, s105, s106, s107, s108], []⟩ w5 := by
  have mixed := mixedA
  conv => arg 2; whnf
  have HQ := Lib.hid hQ
  have HL := Lib.hid hL
  have HL0 : Hid (Below w5.heap.size w5 w5) := Lib.hid (Below.refl _ _)
  clear hQ hL
  generalize hlm : lm.length = nm at *
  have HLM := Lib.hid hlm
  clear hlm
  go_region_held3 (fun wx => Below w5.heap.size w5 wx)
    (repeat (first | with_reducible assumption | with_reducible exact HL0.out | with_reducible refine Below.drew ?_ | with_reducible refine keepAQ ?_ _ | with_reducible refine Below.setCell ?_ (by first | exact Nat.le_refl _ | exact Below.size (by with_reducible assumption)) _))
    (first
      | (go_at_call 44; (refine (HL.out _ (by repeat (first | with_reducible assumption | with_reducible exact HL0.out | with_reducible refine Below.drew ?_ | with_reducible refine keepAQ ?_ _))).mono ?_); rintro e y2 ⟨a2, k2, rfl, ho2, hS2, hB2⟩; first | (have hb2 := box_kept hB2; obtain ⟨q0, q1, q2, q3, q4, f0, f1, f2, f3, f4⟩ := five_ok hb2) | skip)
      | fail "no arm")
  all_goals first
    | exact HQ.out _ _ _ _ _ _ _ _ _ _ _ _ _ _ _ _ _ _ hS2.size (blk_here _ _ _) (own_alloc ho2 _) (keepAQ hS2 _)
    | exact HQ.out _ _ _ _ _ _ _ _ _ _ _ _ _ _ _ _ _ _ (Nat.le_refl _) (blk_st5 hb2) (own_st5 ho2 hb2 (by decide)) (below_st5 hS2 (Nat.le_refl _))

end Go.Proofs.YtmbfghbhajmpiaaGreat
