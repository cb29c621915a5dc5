/-
  The fixed examples: the region of eight literals, whatever the order (gen_an.py).
-/
import Derived.Test.YthpajecigkfajaaAM
namespace Go.Proofs.Ythpajecigkfajaa
open Go.RowKit Go.Sort
set_option linter.unusedVariables false
set_option maxRecDepth 1000000

theorem arr_lit (t : Array Value) (n : Nat) (h : t.size = n) : t = ((List.range n).map fun i => t.getD i undef).toArray := by
  apply Array.ext
  · simp [h]
  · intro i h1 h2
    simp [Array.getD_eq_getD_getElem?, h1]
def noDst (ops : Array Oper) (d : Nat) : Bool := ops.toList.all fun o => !(o.dst == some d)
theorem noDst_spec {ops : Array Oper} {d : Nat} (h : noDst ops d = true) (i : Nat) (o : Oper) (ho : ops[i]? = some o) : o.dst ≠ some d := by
  obtain ⟨hi, rfl⟩ := Array.getElem?_eq_some_iff.1 ho
  have := List.all_eq_true.1 h ops[i] (Array.mem_toList_iff.2 (Array.getElem_mem hi))
  intro e
  rw [e] at this
  simp at this
def noDstAll (ops : Array Oper) (ds : List Nat) : Bool := ds.all fun d => noDst ops d
def frees9 : List Nat := [0, 1, 2, 3, 4, 5, 6, 8, 9, 10, 11, 12, 13, 14, 15, 16, 17, 18, 19, 20, 21, 22, 23, 24, 25, 26, 27, 28, 29, 30, 31, 32, 33, 34, 35, 36, 54, 55, 56, 57, 58, 59, 60, 61, 62, 63, 64, 65, 66, 67, 68, 69, 70, 71, 72, 73, 74, 75, 76, 77, 78, 79, 80, 81, 82, 83, 84, 85, 86, 87, 88, 89, 90, 91, 92, 93, 94, 95, 96, 97, 98, 99, 100, 101, 102, 103, 104, 105, 106, 107, 108, 109, 110, 111, 112, 113, 114, 115, 116, 117, 118, 119, 120, 121, 122, 123, 124, 125, 126, 127, 128, 129, 130, 131, 132, 133, 134, 135, 136, 137, 138, 139, 140, 141]
theorem frees9_ok : noDstAll (codeOps rg9) frees9 = true := by kernel_rfl
theorem free9 (d : Nat) (h : frees9.contains d = true) : noDst (codeOps rg9) d = true := List.all_eq_true.1 frees9_ok d (by simpa using h)
theorem rg9_eq : rg9 = .region 9 (codeOps rg9) true := by kernel_rfl
set_option maxHeartbeats 8000000 in
theorem regS9 (zb nb : Nat) (n4 : Sl3) (w8 : World) (hc : ∀ wx, Below w8.heap.size w8 wx → wx.cell? ⟨nb, 4, none⟩ = some (slV n4)) (hz : IsSums w8 (.slice (some ⟨zb, 0, none⟩) 2 2) [zeroSm, zeroSm]) (hm : IsMsgs w8 (slV n4) [delK])
    (s0 s1 s2 s3 s4 s7 s8 s9 s10 s11 s12 s13 s14 s15 s16 s17 s18 s19 s20 s21 s22 s23 s24 s25 s26 s27 s28 s29 s30 s31 s32 s33 s34 s35 s36 s37 s38 s39 s40 s41 s42 s43 s44 s45 s46 s47 s48 s49 s50 s51 s52 s53 s54 s55 s56 s57 s58 s59 s60 s61 s62 s63 s64 s65 s66 s67 s68 s69 s70 s71 s72 s73 s74 s75 s76 s77 s78 s79 s80 s81 s82 s83 s84 s85 s86 s87 s88 s89 s90 s91 s92 s93 s94 s95 s96 s97 s98 s99 s100 s101 s102 s103 s104 s105 s106 s107 s108 s109 s110 s111 s112 s113 s114 s115 s116 s117 s118 s119 s120 s121 s122 s123 s124 s125 s126 s127 s128 s129 s130 s131 s132 s133 s134 s135 s136 s137 s138 s139 s140 s141 : Value) (Q : Exit → Act → World → Prop)
    (hQ : ∀ (u37 u38 u39 u40 u41 u42 u43 u44 u45 u46 u47 u48 u49 u50 u51 u52 u53 : Value) (qb : Nat) (y0 y1 y2 : Sl3) (wx : World), Blk wx qb 38 #[slV y0, slV y1, slV y2] → IsSplit wx (.agg #[slV y0, slV y1, slV y2]) want5 [[99], [101]] [delK] → Below w8.heap.size w8 wx → Q .normal ⟨#[s0, s1, s2, s3, s4, .pointer (some ⟨nb, 0, none⟩), .slice (some ⟨zb, 0, none⟩) 2 2, .pointer (some ⟨qb, 0, none⟩), s8, s9, s10, s11, s12, s13, s14, s15, s16, s17, s18, s19, s20, s21, s22, s23, s24, s25, s26, s27, s28, s29, s30, s31, s32, s33, s34, s35, s36, u37, u38, u39, u40, u41, u42, u43, u44, u45, u46, u47, u48, u49, u50, u51, u52, u53, s54, s55, s56, s57, s58, s59, s60, s61, s62, s63, s64, s65, s66, s67, s68, s69, s70, s71, s72, s73, s74, s75, s76, s77, s78, s79, s80, s81, s82, s83, s84, s85, s86, s87, s88, s89, s90, s91, s92, s93, s94, s95, s96, s97, s98, s99, s100, s101, s102, s103, s104, s105, s106, s107, s108, s109, s110, s111, s112, s113, s114, s115, s116, s117, s118, s119, s120, s121, s122, s123, s124, s125, s126, s127, s128, s129, s130, s131, s132, s133, s134, s135, s136, s137, s138, s139, s140, s141], []⟩ wx) :
    rg9.wp Try.prog Q ⟨#[s0, s1, s2, s3, s4, .pointer (some ⟨nb, 0, none⟩), .slice (some ⟨zb, 0, none⟩) 2 2, s7, s8, s9, s10, s11, s12, s13, s14, s15, s16, s17, s18, s19, s20, s21, s22, s23, s24, s25, s26, s27, s28, s29, s30, s31, s32, s33, s34, s35, s36, s37, s38, s39, s40, s41, s42, s43, s44, s45, s46, s47, s48, s49, s50, s51, s52, s53, s54, s55, s56, s57, s58, s59, s60, s61, s62, s63, s64, s65, s66, s67, s68, s69, s70, s71, s72, s73, s74, s75, s76, s77, s78, s79, s80, s81, s82, s83, s84, s85, s86, s87, s88, s89, s90, s91, s92, s93, s94, s95, s96, s97, s98, s99, s100, s101, s102, s103, s104, s105, s106, s107, s108, s109, s110, s111, s112, s113, s114, s115, s116, s117, s118, s119, s120, s121, s122, s123, s124, s125, s126, s127, s128, s129, s130, s131, s132, s133, s134, s135, s136, s137, s138, s139, s140, s141], []⟩ w8 := by
  have mixed := mixedA
  have HQ := Lib.hid hQ
  clear hQ
  rw [rg9_eq]
  refine wp_region_any mixed ?_
  have hok := rg9_ok
  obtain ⟨a0, ha0⟩ : ∃ a0 : Act, a0 = ⟨#[s0, s1, s2, s3, s4, .pointer (some ⟨nb, 0, none⟩), .slice (some ⟨zb, 0, none⟩) 2 2, s7, s8, s9, s10, s11, s12, s13, s14, s15, s16, s17, s18, s19, s20, s21, s22, s23, s24, s25, s26, s27, s28, s29, s30, s31, s32, s33, s34, s35, s36, s37, s38, s39, s40, s41, s42, s43, s44, s45, s46, s47, s48, s49, s50, s51, s52, s53, s54, s55, s56, s57, s58, s59, s60, s61, s62, s63, s64, s65, s66, s67, s68, s69, s70, s71, s72, s73, s74, s75, s76, s77, s78, s79, s80, s81, s82, s83, s84, s85, s86, s87, s88, s89, s90, s91, s92, s93, s94, s95, s96, s97, s98, s99, s100, s101, s102, s103, s104, s105, s106, s107, s108, s109, s110, s111, s112, s113, s114, s115, s116, s117, s118, s119, s120, s121, s122, s123, s124, s125, s126, s127, s128, s129, s130, s131, s132, s133, s134, s135, s136, s137, s138, s139, s140, s141], []⟩ := ⟨_, rfl⟩
  have hsz : a0.tmps.size = 142 := by rw [ha0]; rfl
  have hdf : a0.defers = [] := by rw [ha0]
  have h5 : a0.tmps.getD 5 undef = .pointer (some ⟨nb, 0, none⟩) := by rw [ha0]; rfl
  have h6 : a0.tmps.getD 6 undef = .slice (some ⟨zb, 0, none⟩) 2 2 := by rw [ha0]; rfl
  have Ha0 := Lib.hid ha0
  rw [← ha0]
  clear ha0
  have hopsz := latOK_size hok
  refine lattice (md := .any) (k := 18) hopsz (fun i o ho => (latOK_at hok ho).1) (fun i o ho => (latOK_at hok ho).2.1) (fun o ho => (latOK_at hok ho).2.2.2 rfl) (fun i j oi oj d h1 h2 h3 h4 => ((latOK_at hok h2).2.2.1 d h4).2 i oi h1 h3)
    (G9 zb nb n4 w8.heap.size) (fun wx => Below w8.heap.size w8 wx) a0 (fun i o d h1 h2 => by rw [hsz]; exact ((latOK_at hok h1).2.2.1 d h2).1) ?step ?fin _ _ _ _ ?_ ?_ ?_ ?_
  case step =>
    intro i o a w hi ho hS hfr hd
    have e5 : a.tmps[5]?.getD undef = .pointer (some ⟨nb, 0, none⟩) := by rw [← Array.getD_eq_getD_getElem?, hfr 5 (noDst_spec (free9 5 (by decide)))]; exact h5
    have e6 : a.tmps[6]?.getD undef = .slice (some ⟨zb, 0, none⟩) 2 2 := by rw [← Array.getD_eq_getD_getElem?, hfr 6 (noDst_spec (free9 6 (by decide)))]; exact h6
    have hcs : i = 0 ∨ i = 1 ∨ i = 2 ∨ i = 3 ∨ i = 4 ∨ i = 5 ∨ i = 6 ∨ i = 7 ∨ i = 8 ∨ i = 9 ∨ i = 10 ∨ i = 11 ∨ i = 12 ∨ i = 13 ∨ i = 14 ∨ i = 15 ∨ i = 16 ∨ i = 17 := by omega
    rcases hcs with rfl | rfl | rfl | rfl | rfl | rfl | rfl | rfl | rfl | rfl | rfl | rfl | rfl | rfl | rfl | rfl | rfl | rfl
    · exact st9_0 zb nb n4 w8 a w Q o ho hS e5 e6 hc hz hm hd
    · exact st9_1 zb nb n4 w8 a w Q o ho hS e5 e6 hc hz hm hd
    · exact st9_2 zb nb n4 w8 a w Q o ho hS e5 e6 hc hz hm hd
    · exact st9_3 zb nb n4 w8 a w Q o ho hS e5 e6 hc hz hm hd
    · exact st9_4 zb nb n4 w8 a w Q o ho hS e5 e6 hc hz hm hd
    · exact st9_5 zb nb n4 w8 a w Q o ho hS e5 e6 hc hz hm hd
    · exact st9_6 zb nb n4 w8 a w Q o ho hS e5 e6 hc hz hm hd
    · exact st9_7 zb nb n4 w8 a w Q o ho hS e5 e6 hc hz hm hd
    · exact st9_8 zb nb n4 w8 a w Q o ho hS e5 e6 hc hz hm hd
    · exact st9_9 zb nb n4 w8 a w Q o ho hS e5 e6 hc hz hm hd
    · exact st9_10 zb nb n4 w8 a w Q o ho hS e5 e6 hc hz hm hd
    · exact st9_11 zb nb n4 w8 a w Q o ho hS e5 e6 hc hz hm hd
    · exact st9_12 zb nb n4 w8 a w Q o ho hS e5 e6 hc hz hm hd
    · exact st9_13 zb nb n4 w8 a w Q o ho hS e5 e6 hc hz hm hd
    · exact st9_14 zb nb n4 w8 a w Q o ho hS e5 e6 hc hz hm hd
    · exact st9_15 zb nb n4 w8 a w Q o ho hS e5 e6 hc hz hm hd
    · exact st9_16 zb nb n4 w8 a w Q o ho hS e5 e6 hc hz hm hd
    · exact st9_17 zb nb n4 w8 a w Q o ho hS e5 e6 hc hz hm hd
  case fin =>
    intro o a w ho hS hsize hdefs hfr hv
    have hsize : a.tmps.size = 142 := by rw [hsize, hsz]
    have hdefs : a.defers = [] := by rw [hdefs, hdf]
    obtain ⟨o16, ho16⟩ : ∃ o, (codeOps rg9)[16]? = some o := ⟨_, Array.getElem?_eq_getElem (by rw [hopsz]; decide)⟩
    obtain ⟨o17, ho17⟩ : ∃ o, (codeOps rg9)[17]? = some o := ⟨_, Array.getElem?_eq_getElem (by rw [hopsz]; decide)⟩
    have d16 : o16.dst = some 53 := by
      have : ((codeOps rg9)[16]?).bind (·.dst) = some 53 := by kernel_rfl
      rw [ho16] at this; exact this
    have d17 : o17.dst = some 7 := by
      have : ((codeOps rg9)[17]?).bind (·.dst) = some 7 := by kernel_rfl
      rw [ho17] at this; exact this
    refine st9_18 zb nb n4 w8 a w Q o ho hS (hv 16 o16 53 (by decide) ho16 d16) (hv 17 o17 7 (by decide) ho17 d17) ?_
    intro qb y0 y1 y2 wx h7 hb hs hbel
    have hall : ∀ j, frees9.contains j = true → a.tmps.getD j undef = a0.tmps.getD j undef := fun j hj => hfr j (noDst_spec (free9 j hj))
    rw [Ha0.out] at hall
    have r0 : a.tmps.getD 0 undef = s0 := hall 0 (by decide)
    have r1 : a.tmps.getD 1 undef = s1 := hall 1 (by decide)
    have r2 : a.tmps.getD 2 undef = s2 := hall 2 (by decide)
    have r3 : a.tmps.getD 3 undef = s3 := hall 3 (by decide)
    have r4 : a.tmps.getD 4 undef = s4 := hall 4 (by decide)
    have r5 : a.tmps.getD 5 undef = .pointer (some ⟨nb, 0, none⟩) := hall 5 (by decide)
    have r6 : a.tmps.getD 6 undef = .slice (some ⟨zb, 0, none⟩) 2 2 := hall 6 (by decide)
    have r8 : a.tmps.getD 8 undef = s8 := hall 8 (by decide)
    have r9 : a.tmps.getD 9 undef = s9 := hall 9 (by decide)
    have r10 : a.tmps.getD 10 undef = s10 := hall 10 (by decide)
    have r11 : a.tmps.getD 11 undef = s11 := hall 11 (by decide)
    have r12 : a.tmps.getD 12 undef = s12 := hall 12 (by decide)
    have r13 : a.tmps.getD 13 undef = s13 := hall 13 (by decide)
    have r14 : a.tmps.getD 14 undef = s14 := hall 14 (by decide)
    have r15 : a.tmps.getD 15 undef = s15 := hall 15 (by decide)
    have r16 : a.tmps.getD 16 undef = s16 := hall 16 (by decide)
    have r17 : a.tmps.getD 17 undef = s17 := hall 17 (by decide)
    have r18 : a.tmps.getD 18 undef = s18 := hall 18 (by decide)
    have r19 : a.tmps.getD 19 undef = s19 := hall 19 (by decide)
    have r20 : a.tmps.getD 20 undef = s20 := hall 20 (by decide)
    have r21 : a.tmps.getD 21 undef = s21 := hall 21 (by decide)
    have r22 : a.tmps.getD 22 undef = s22 := hall 22 (by decide)
    have r23 : a.tmps.getD 23 undef = s23 := hall 23 (by decide)
    have r24 : a.tmps.getD 24 undef = s24 := hall 24 (by decide)
    have r25 : a.tmps.getD 25 undef = s25 := hall 25 (by decide)
    have r26 : a.tmps.getD 26 undef = s26 := hall 26 (by decide)
    have r27 : a.tmps.getD 27 undef = s27 := hall 27 (by decide)
    have r28 : a.tmps.getD 28 undef = s28 := hall 28 (by decide)
    have r29 : a.tmps.getD 29 undef = s29 := hall 29 (by decide)
    have r30 : a.tmps.getD 30 undef = s30 := hall 30 (by decide)
    have r31 : a.tmps.getD 31 undef = s31 := hall 31 (by decide)
    have r32 : a.tmps.getD 32 undef = s32 := hall 32 (by decide)
    have r33 : a.tmps.getD 33 undef = s33 := hall 33 (by decide)
    have r34 : a.tmps.getD 34 undef = s34 := hall 34 (by decide)
    have r35 : a.tmps.getD 35 undef = s35 := hall 35 (by decide)
    have r36 : a.tmps.getD 36 undef = s36 := hall 36 (by decide)
    have r54 : a.tmps.getD 54 undef = s54 := hall 54 (by decide)
    have r55 : a.tmps.getD 55 undef = s55 := hall 55 (by decide)
    have r56 : a.tmps.getD 56 undef = s56 := hall 56 (by decide)
    have r57 : a.tmps.getD 57 undef = s57 := hall 57 (by decide)
    have r58 : a.tmps.getD 58 undef = s58 := hall 58 (by decide)
    have r59 : a.tmps.getD 59 undef = s59 := hall 59 (by decide)
    have r60 : a.tmps.getD 60 undef = s60 := hall 60 (by decide)
    have r61 : a.tmps.getD 61 undef = s61 := hall 61 (by decide)
    have r62 : a.tmps.getD 62 undef = s62 := hall 62 (by decide)
    have r63 : a.tmps.getD 63 undef = s63 := hall 63 (by decide)
    have r64 : a.tmps.getD 64 undef = s64 := hall 64 (by decide)
    have r65 : a.tmps.getD 65 undef = s65 := hall 65 (by decide)
    have r66 : a.tmps.getD 66 undef = s66 := hall 66 (by decide)
    have r67 : a.tmps.getD 67 undef = s67 := hall 67 (by decide)
    have r68 : a.tmps.getD 68 undef = s68 := hall 68 (by decide)
    have r69 : a.tmps.getD 69 undef = s69 := hall 69 (by decide)
    have r70 : a.tmps.getD 70 undef = s70 := hall 70 (by decide)
    have r71 : a.tmps.getD 71 undef = s71 := hall 71 (by decide)
    have r72 : a.tmps.getD 72 undef = s72 := hall 72 (by decide)
    have r73 : a.tmps.getD 73 undef = s73 := hall 73 (by decide)
    have r74 : a.tmps.getD 74 undef = s74 := hall 74 (by decide)
    have r75 : a.tmps.getD 75 undef = s75 := hall 75 (by decide)
    have r76 : a.tmps.getD 76 undef = s76 := hall 76 (by decide)
    have r77 : a.tmps.getD 77 undef = s77 := hall 77 (by decide)
    have r78 : a.tmps.getD 78 undef = s78 := hall 78 (by decide)
    have r79 : a.tmps.getD 79 undef = s79 := hall 79 (by decide)
    have r80 : a.tmps.getD 80 undef = s80 := hall 80 (by decide)
    have r81 : a.tmps.getD 81 undef = s81 := hall 81 (by decide)
    have r82 : a.tmps.getD 82 undef = s82 := hall 82 (by decide)
    have r83 : a.tmps.getD 83 undef = s83 := hall 83 (by decide)
    have r84 : a.tmps.getD 84 undef = s84 := hall 84 (by decide)
    have r85 : a.tmps.getD 85 undef = s85 := hall 85 (by decide)
    have r86 : a.tmps.getD 86 undef = s86 := hall 86 (by decide)
    have r87 : a.tmps.getD 87 undef = s87 := hall 87 (by decide)
    have r88 : a.tmps.getD 88 undef = s88 := hall 88 (by decide)
    have r89 : a.tmps.getD 89 undef = s89 := hall 89 (by decide)
    have r90 : a.tmps.getD 90 undef = s90 := hall 90 (by decide)
    have r91 : a.tmps.getD 91 undef = s91 := hall 91 (by decide)
    have r92 : a.tmps.getD 92 undef = s92 := hall 92 (by decide)
    have r93 : a.tmps.getD 93 undef = s93 := hall 93 (by decide)
    have r94 : a.tmps.getD 94 undef = s94 := hall 94 (by decide)
    have r95 : a.tmps.getD 95 undef = s95 := hall 95 (by decide)
    have r96 : a.tmps.getD 96 undef = s96 := hall 96 (by decide)
    have r97 : a.tmps.getD 97 undef = s97 := hall 97 (by decide)
    have r98 : a.tmps.getD 98 undef = s98 := hall 98 (by decide)
    have r99 : a.tmps.getD 99 undef = s99 := hall 99 (by decide)
    have r100 : a.tmps.getD 100 undef = s100 := hall 100 (by decide)
    have r101 : a.tmps.getD 101 undef = s101 := hall 101 (by decide)
    have r102 : a.tmps.getD 102 undef = s102 := hall 102 (by decide)
    have r103 : a.tmps.getD 103 undef = s103 := hall 103 (by decide)
    have r104 : a.tmps.getD 104 undef = s104 := hall 104 (by decide)
    have r105 : a.tmps.getD 105 undef = s105 := hall 105 (by decide)
    have r106 : a.tmps.getD 106 undef = s106 := hall 106 (by decide)
    have r107 : a.tmps.getD 107 undef = s107 := hall 107 (by decide)
    have r108 : a.tmps.getD 108 undef = s108 := hall 108 (by decide)
    have r109 : a.tmps.getD 109 undef = s109 := hall 109 (by decide)
    have r110 : a.tmps.getD 110 undef = s110 := hall 110 (by decide)
    have r111 : a.tmps.getD 111 undef = s111 := hall 111 (by decide)
    have r112 : a.tmps.getD 112 undef = s112 := hall 112 (by decide)
    have r113 : a.tmps.getD 113 undef = s113 := hall 113 (by decide)
    have r114 : a.tmps.getD 114 undef = s114 := hall 114 (by decide)
    have r115 : a.tmps.getD 115 undef = s115 := hall 115 (by decide)
    have r116 : a.tmps.getD 116 undef = s116 := hall 116 (by decide)
    have r117 : a.tmps.getD 117 undef = s117 := hall 117 (by decide)
    have r118 : a.tmps.getD 118 undef = s118 := hall 118 (by decide)
    have r119 : a.tmps.getD 119 undef = s119 := hall 119 (by decide)
    have r120 : a.tmps.getD 120 undef = s120 := hall 120 (by decide)
    have r121 : a.tmps.getD 121 undef = s121 := hall 121 (by decide)
    have r122 : a.tmps.getD 122 undef = s122 := hall 122 (by decide)
    have r123 : a.tmps.getD 123 undef = s123 := hall 123 (by decide)
    have r124 : a.tmps.getD 124 undef = s124 := hall 124 (by decide)
    have r125 : a.tmps.getD 125 undef = s125 := hall 125 (by decide)
    have r126 : a.tmps.getD 126 undef = s126 := hall 126 (by decide)
    have r127 : a.tmps.getD 127 undef = s127 := hall 127 (by decide)
    have r128 : a.tmps.getD 128 undef = s128 := hall 128 (by decide)
    have r129 : a.tmps.getD 129 undef = s129 := hall 129 (by decide)
    have r130 : a.tmps.getD 130 undef = s130 := hall 130 (by decide)
    have r131 : a.tmps.getD 131 undef = s131 := hall 131 (by decide)
    have r132 : a.tmps.getD 132 undef = s132 := hall 132 (by decide)
    have r133 : a.tmps.getD 133 undef = s133 := hall 133 (by decide)
    have r134 : a.tmps.getD 134 undef = s134 := hall 134 (by decide)
    have r135 : a.tmps.getD 135 undef = s135 := hall 135 (by decide)
    have r136 : a.tmps.getD 136 undef = s136 := hall 136 (by decide)
    have r137 : a.tmps.getD 137 undef = s137 := hall 137 (by decide)
    have r138 : a.tmps.getD 138 undef = s138 := hall 138 (by decide)
    have r139 : a.tmps.getD 139 undef = s139 := hall 139 (by decide)
    have r140 : a.tmps.getD 140 undef = s140 := hall 140 (by decide)
    have r141 : a.tmps.getD 141 undef = s141 := hall 141 (by decide)
    have ht : a.tmps = #[s0, s1, s2, s3, s4, .pointer (some ⟨nb, 0, none⟩), .slice (some ⟨zb, 0, none⟩) 2 2, .pointer (some ⟨qb, 0, none⟩), s8, s9, s10, s11, s12, s13, s14, s15, s16, s17, s18, s19, s20, s21, s22, s23, s24, s25, s26, s27, s28, s29, s30, s31, s32, s33, s34, s35, s36, a.tmps.getD 37 undef, a.tmps.getD 38 undef, a.tmps.getD 39 undef, a.tmps.getD 40 undef, a.tmps.getD 41 undef, a.tmps.getD 42 undef, a.tmps.getD 43 undef, a.tmps.getD 44 undef, a.tmps.getD 45 undef, a.tmps.getD 46 undef, a.tmps.getD 47 undef, a.tmps.getD 48 undef, a.tmps.getD 49 undef, a.tmps.getD 50 undef, a.tmps.getD 51 undef, a.tmps.getD 52 undef, a.tmps.getD 53 undef, s54, s55, s56, s57, s58, s59, s60, s61, s62, s63, s64, s65, s66, s67, s68, s69, s70, s71, s72, s73, s74, s75, s76, s77, s78, s79, s80, s81, s82, s83, s84, s85, s86, s87, s88, s89, s90, s91, s92, s93, s94, s95, s96, s97, s98, s99, s100, s101, s102, s103, s104, s105, s106, s107, s108, s109, s110, s111, s112, s113, s114, s115, s116, s117, s118, s119, s120, s121, s122, s123, s124, s125, s126, s127, s128, s129, s130, s131, s132, s133, s134, s135, s136, s137, s138, s139, s140, s141] := by
      rw [arr_lit a.tmps 142 hsize]
      show ([a.tmps.getD 0 undef, a.tmps.getD 1 undef, a.tmps.getD 2 undef, a.tmps.getD 3 undef, a.tmps.getD 4 undef, a.tmps.getD 5 undef, a.tmps.getD 6 undef, a.tmps.getD 7 undef, a.tmps.getD 8 undef, a.tmps.getD 9 undef, a.tmps.getD 10 undef, a.tmps.getD 11 undef, a.tmps.getD 12 undef, a.tmps.getD 13 undef, a.tmps.getD 14 undef, a.tmps.getD 15 undef, a.tmps.getD 16 undef, a.tmps.getD 17 undef, a.tmps.getD 18 undef, a.tmps.getD 19 undef, a.tmps.getD 20 undef, a.tmps.getD 21 undef, a.tmps.getD 22 undef, a.tmps.getD 23 undef, a.tmps.getD 24 undef, a.tmps.getD 25 undef, a.tmps.getD 26 undef, a.tmps.getD 27 undef, a.tmps.getD 28 undef, a.tmps.getD 29 undef, a.tmps.getD 30 undef, a.tmps.getD 31 undef, a.tmps.getD 32 undef, a.tmps.getD 33 undef, a.tmps.getD 34 undef, a.tmps.getD 35 undef, a.tmps.getD 36 undef, a.tmps.getD 37 undef, a.tmps.getD 38 undef, a.tmps.getD 39 undef, a.tmps.getD 40 undef, a.tmps.getD 41 undef, a.tmps.getD 42 undef, a.tmps.getD 43 undef, a.tmps.getD 44 undef, a.tmps.getD 45 undef, a.tmps.getD 46 undef, a.tmps.getD 47 undef, a.tmps.getD 48 undef, a.tmps.getD 49 undef, a.tmps.getD 50 undef, a.tmps.getD 51 undef, a.tmps.getD 52 undef, a.tmps.getD 53 undef, a.tmps.getD 54 undef, a.tmps.getD 55 undef, a.tmps.getD 56 undef, a.tmps.getD 57 undef, a.tmps.getD 58 undef, a.tmps.getD 59 undef, a.tmps.getD 60 undef, a.tmps.getD 61 undef, a.tmps.getD 62 undef, a.tmps.getD 63 undef, a.tmps.getD 64 undef, a.tmps.getD 65 undef, a.tmps.getD 66 undef, a.tmps.getD 67 undef, a.tmps.getD 68 undef, a.tmps.getD 69 undef, a.tmps.getD 70 undef, a.tmps.getD 71 undef, a.tmps.getD 72 undef, a.tmps.getD 73 undef, a.tmps.getD 74 undef, a.tmps.getD 75 undef, a.tmps.getD 76 undef, a.tmps.getD 77 undef, a.tmps.getD 78 undef, a.tmps.getD 79 undef, a.tmps.getD 80 undef, a.tmps.getD 81 undef, a.tmps.getD 82 undef, a.tmps.getD 83 undef, a.tmps.getD 84 undef, a.tmps.getD 85 undef, a.tmps.getD 86 undef, a.tmps.getD 87 undef, a.tmps.getD 88 undef, a.tmps.getD 89 undef, a.tmps.getD 90 undef, a.tmps.getD 91 undef, a.tmps.getD 92 undef, a.tmps.getD 93 undef, a.tmps.getD 94 undef, a.tmps.getD 95 undef, a.tmps.getD 96 undef, a.tmps.getD 97 undef, a.tmps.getD 98 undef, a.tmps.getD 99 undef, a.tmps.getD 100 undef, a.tmps.getD 101 undef, a.tmps.getD 102 undef, a.tmps.getD 103 undef, a.tmps.getD 104 undef, a.tmps.getD 105 undef, a.tmps.getD 106 undef, a.tmps.getD 107 undef, a.tmps.getD 108 undef, a.tmps.getD 109 undef, a.tmps.getD 110 undef, a.tmps.getD 111 undef, a.tmps.getD 112 undef, a.tmps.getD 113 undef, a.tmps.getD 114 undef, a.tmps.getD 115 undef, a.tmps.getD 116 undef, a.tmps.getD 117 undef, a.tmps.getD 118 undef, a.tmps.getD 119 undef, a.tmps.getD 120 undef, a.tmps.getD 121 undef, a.tmps.getD 122 undef, a.tmps.getD 123 undef, a.tmps.getD 124 undef, a.tmps.getD 125 undef, a.tmps.getD 126 undef, a.tmps.getD 127 undef, a.tmps.getD 128 undef, a.tmps.getD 129 undef, a.tmps.getD 130 undef, a.tmps.getD 131 undef, a.tmps.getD 132 undef, a.tmps.getD 133 undef, a.tmps.getD 134 undef, a.tmps.getD 135 undef, a.tmps.getD 136 undef, a.tmps.getD 137 undef, a.tmps.getD 138 undef, a.tmps.getD 139 undef, a.tmps.getD 140 undef, a.tmps.getD 141 undef] : List Value).toArray = _
      rw [h7, r0, r1, r2, r3, r4, r5, r6, r8, r9, r10, r11, r12, r13, r14, r15, r16, r17, r18, r19, r20, r21, r22, r23, r24, r25, r26, r27, r28, r29, r30, r31, r32, r33, r34, r35, r36, r54, r55, r56, r57, r58, r59, r60, r61, r62, r63, r64, r65, r66, r67, r68, r69, r70, r71, r72, r73, r74, r75, r76, r77, r78, r79, r80, r81, r82, r83, r84, r85, r86, r87, r88, r89, r90, r91, r92, r93, r94, r95, r96, r97, r98, r99, r100, r101, r102, r103, r104, r105, r106, r107, r108, r109, r110, r111, r112, r113, r114, r115, r116, r117, r118, r119, r120, r121, r122, r123, r124, r125, r126, r127, r128, r129, r130, r131, r132, r133, r134, r135, r136, r137, r138, r139, r140, r141]
      rfl
    have ha : a = ⟨#[s0, s1, s2, s3, s4, .pointer (some ⟨nb, 0, none⟩), .slice (some ⟨zb, 0, none⟩) 2 2, .pointer (some ⟨qb, 0, none⟩), s8, s9, s10, s11, s12, s13, s14, s15, s16, s17, s18, s19, s20, s21, s22, s23, s24, s25, s26, s27, s28, s29, s30, s31, s32, s33, s34, s35, s36, a.tmps.getD 37 undef, a.tmps.getD 38 undef, a.tmps.getD 39 undef, a.tmps.getD 40 undef, a.tmps.getD 41 undef, a.tmps.getD 42 undef, a.tmps.getD 43 undef, a.tmps.getD 44 undef, a.tmps.getD 45 undef, a.tmps.getD 46 undef, a.tmps.getD 47 undef, a.tmps.getD 48 undef, a.tmps.getD 49 undef, a.tmps.getD 50 undef, a.tmps.getD 51 undef, a.tmps.getD 52 undef, a.tmps.getD 53 undef, s54, s55, s56, s57, s58, s59, s60, s61, s62, s63, s64, s65, s66, s67, s68, s69, s70, s71, s72, s73, s74, s75, s76, s77, s78, s79, s80, s81, s82, s83, s84, s85, s86, s87, s88, s89, s90, s91, s92, s93, s94, s95, s96, s97, s98, s99, s100, s101, s102, s103, s104, s105, s106, s107, s108, s109, s110, s111, s112, s113, s114, s115, s116, s117, s118, s119, s120, s121, s122, s123, s124, s125, s126, s127, s128, s129, s130, s131, s132, s133, s134, s135, s136, s137, s138, s139, s140, s141], []⟩ := by
      obtain ⟨t, df⟩ := a
      simp only at ht hdefs
      rw [hdefs]
      exact congrArg (fun t => (⟨t, []⟩ : Act)) ht
    rw [ha]
    exact HQ.out (a.tmps.getD 37 undef) (a.tmps.getD 38 undef) (a.tmps.getD 39 undef) (a.tmps.getD 40 undef) (a.tmps.getD 41 undef) (a.tmps.getD 42 undef) (a.tmps.getD 43 undef) (a.tmps.getD 44 undef) (a.tmps.getD 45 undef) (a.tmps.getD 46 undef) (a.tmps.getD 47 undef) (a.tmps.getD 48 undef) (a.tmps.getD 49 undef) (a.tmps.getD 50 undef) (a.tmps.getD 51 undef) (a.tmps.getD 52 undef) (a.tmps.getD 53 undef) qb y0 y1 y2 wx hb hs hbel
  · rw [Array.size_replicate]; exact hopsz
  · rw [hopsz]; decide
  · rw [hopsz]; decide
  · exact ⟨rfl, rfl, (Below.refl _ _).drew, fun _ _ => rfl, fun i o d ho hl hd => by
      exfalso
      rw [hopsz] at hl
      simp only [Array.getD_eq_getD_getElem?, Array.getElem?_replicate] at hl
      split at hl <;> simp at hl⟩

end Go.Proofs.Ythpajecigkfajaa
