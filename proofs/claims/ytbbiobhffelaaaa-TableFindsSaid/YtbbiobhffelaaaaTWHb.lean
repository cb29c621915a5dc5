/-
  Walks: region 4 of the fixed examples.
-/
import Derived.Test.YtbbiobhffelaaaaTWHa
namespace Go.Proofs.Ytbbiobhffelaaaa
open Go.RowKit Go.Sort
set_option linter.unusedVariables false

noncomputable def reg4 : Code := ((Try.f10.body.bind (codeReg 4)).getD .skip)
set_option maxRecDepth 1000000 in
set_option maxHeartbeats 16000000 in
theorem reg4_w (w wa : World) (hS : SanSt w wa) (s0 s3 s4 s5 s6 s7 s8 s9 s10 s11 s12 s13 s14 s15 s16 s17 s18 s19 s20 s21 s22 s23 s24 s25 s26 s27 s28 s29 s30 s31 s32 s33 s34 s35 s36 s37 s38 s39 s40 s41 s42 s43 s44 s45 s46 s47 s48 s49 s50 s51 s52 s53 s54 s55 s56 s57 s58 s59 s60 s61 s62 s63 s64 s65 s66 s67 s68 s69 s70 s71 s72 s73 s74 s75 s76 s77 s78 s79 s80 s81 s82 s83 s84 s85 s86 s87 s88 s89 s90 s91 s92 s93 s94 s95 s96 s97 s98 s99 s100 s101 s102 s103 s104 s105 s106 s107 s108 s109 s110 s111 s112 s113 s114 s115 s116 s117 s118 s119 s120 s121 s122 s123 s124 s125 s126 s127 s128 s129 s130 s131 s132 s133 s134 s135 s136 s137 s138 s139 s140 s141 s142 s143 s144 s145 s146 s147 s148 : Value) (Q : Exit → Act → World → Prop)
    (hQ : ∀ (t21 t22 t23 t24 t25 t26 t27 t28 t29 t30 t31 t32 t33 t34 t35 t36 t37 t38 t39 t40 t41 t42 t43 t44 t45 t46 t47 t48 t49 t50 : Value) (wx : World), SanSt w wx → Q .normal ⟨#[s0, .slice (some ⟨w.heap.size, 0, none⟩) 2 2, .slice (some ⟨w.heap.size + 1, 0, none⟩) 2 2, s3, .bool true, s5, s6, s7, s8, s9, s10, s11, s12, s13, s14, s15, s16, s17, s18, s19, s20, t21, t22, t23, t24, t25, t26, t27, t28, t29, t30, t31, t32, t33, t34, t35, t36, t37, t38, t39, t40, t41, t42, t43, t44, t45, t46, t47, t48, t49, t50, s51, s52, s53, s54, s55, s56, s57, s58, s59, s60, s61, s62, s63, s64, s65, s66, s67, s68, s69, s70, s71, s72, s73, s74, s75, s76, s77, s78, s79, s80, s81, s82, s83, s84, s85, s86, s87, s88, s89, s90, s91, s92, s93, s94, s95, s96, s97, s98, s99, s100, s101, s102, s103, s104, s105, s106, s107, s108, s109, s110, s111, s112, s113, s114, s115, s116, s117, s118, s119, s120, s121, s122, s123, s124, s125, s126, s127, s128, s129, s130, s131, s132, s133, s134, s135, s136, s137, s138, s139, s140, s141, s142, s143, s144, s145, s146, s147, s148], []⟩ wx) :
    reg4.wp Try.prog Q ⟨#[s0, .slice (some ⟨w.heap.size, 0, none⟩) 2 2, .slice (some ⟨w.heap.size + 1, 0, none⟩) 2 2, s3, s4, s5, s6, s7, s8, s9, s10, s11, s12, s13, s14, s15, s16, s17, s18, s19, s20, s21, s22, s23, s24, s25, s26, s27, s28, s29, s30, s31, s32, s33, s34, s35, s36, s37, s38, s39, s40, s41, s42, s43, s44, s45, s46, s47, s48, s49, s50, s51, s52, s53, s54, s55, s56, s57, s58, s59, s60, s61, s62, s63, s64, s65, s66, s67, s68, s69, s70, s71, s72, s73, s74, s75, s76, s77, s78, s79, s80, s81, s82, s83, s84, s85, s86, s87, s88, s89, s90, s91, s92, s93, s94, s95, s96, s97, s98, s99, s100, s101, s102, s103, s104, s105, s106, s107, s108, s109, s110, s111, s112, s113, s114, s115, s116, s117, s118, s119, s120, s121, s122, s123, s124, s125, s126, s127, s128, s129, s130, s131, s132, s133, s134, s135, s136, s137, s138, s139, s140, s141, s142, s143, s144, s145, s146, s147, s148], []⟩ wa := by
  conv => arg 2; whnf
  have HS : Hid (SanSt w wa) := Lib.hid hS
  have HQ := Lib.hid hQ
  clear hS hQ
  have a0 := fun wr (h : SanSt w wr) => h.cells.1.1
  have a1 := fun wr (h : SanSt w wr) => h.cells.1.2.1
  have a2 := fun wr (h : SanSt w wr) => h.cells.1.2.2.1
  have a3 := fun wr (h : SanSt w wr) => h.cells.1.2.2.2.1
  have a4 := fun wr (h : SanSt w wr) => h.cells.1.2.2.2.2.1
  have a5 := fun wr (h : SanSt w wr) => h.cells.1.2.2.2.2.2
  have b0 := fun wr (h : SanSt w wr) => h.cells.2.1
  have b1 := fun wr (h : SanSt w wr) => h.cells.2.2.1
  have b2 := fun wr (h : SanSt w wr) => h.cells.2.2.2.1
  have b3 := fun wr (h : SanSt w wr) => h.cells.2.2.2.2.1
  have b4 := fun wr (h : SanSt w wr) => h.cells.2.2.2.2.2.1
  have b5 := fun wr (h : SanSt w wr) => h.cells.2.2.2.2.2.2
  go_region_held3 (fun wr => SanSt w wr) (first | with_reducible assumption | exact SanSt.alloc (by with_reducible assumption) _ | exact HS.out.drew)
    (first
      | (go_at_call 25; (with_reducible refine (sc_union1 (by assumption)).mono ?_); rintro e wu ⟨vu, rfl, hpu, hbu, hsu⟩; first | (have hlu := pairs_below hbu (by with_reducible exact (new_lU wa rfl).drew)) | skip)
      | (go_at_call 25; (with_reducible refine (sc_union2 (by assumption)).mono ?_); rintro e wv ⟨vv, rfl, hpv, hbv, hsv⟩; first | (have hlv := pairs_below hbv (by with_reducible exact new_lV ws rfl)) | skip)
      | (go_at_call 17; (with_reducible refine (sc_same lU (by with_reducible assumption) (by first | with_reducible assumption | with_reducible exact IsPairs.alloc hpu _) (by first | with_reducible assumption | with_reducible exact new_lU _ rfl)).mono ?_); rintro e ws ⟨rfl, hss⟩)
      | (go_at_call 17; (with_reducible refine (sc_same lV (by with_reducible assumption) (by first | with_reducible assumption | with_reducible exact IsPairs.alloc hpv _) (by first | with_reducible assumption | with_reducible exact new_lV _ rfl)).mono ?_); rintro e wt ⟨rfl, hst⟩))
  all_goals
    exact HQ.out _ _ _ _ _ _ _ _ _ _ _ _ _ _ _ _ _ _ _ _ _ _ _ _ _ _ _ _ _ _ _ (by with_reducible assumption)

end Go.Proofs.Ytbbiobhffelaaaa
