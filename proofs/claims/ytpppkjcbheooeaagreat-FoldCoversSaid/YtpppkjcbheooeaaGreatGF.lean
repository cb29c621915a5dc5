/-
  Walks: region 9 of the fixed examples of package fold.
-/
import Derived.Test.YtpppkjcbheooeaaGreatGE
namespace Go.Proofs.YtpppkjcbheooeaaGreat
namespace Fx
open Go.RowKit Go.Sort
set_option linter.unusedVariables false

noncomputable def reg9 : Code := ((Tryz.f21.body.bind (codeReg 9)).getD .skip)
set_option maxRecDepth 1000000 in
set_option maxHeartbeats 16000000 in
theorem reg9_w (w wa : World) (n1 n2 n3 n4 n5 n6 : Nat) (p7 p8 p9 p10 : Option Addr) (c7 c8 c9 c10 : Nat) (hS : SF w n1 n2 n3 n4 n5 n6 (.slice p7 1 c7) (.slice p8 1 c8) (.slice p9 0 c9) (.slice p10 1 c10) wa) (s0 s11 s12 s13 s14 s15 s16 s17 s18 s19 s20 s21 s22 s23 s24 s25 s26 s27 s28 s29 s30 s31 s32 s33 s34 s35 s36 s37 s38 s39 s40 s41 s42 s43 s44 s45 s46 s47 s48 s49 s50 s51 s52 s53 s54 s55 s56 s57 s58 s59 s60 s61 s62 s63 s64 s65 s66 s67 s68 s69 s70 s71 s72 s73 s74 s75 s76 s77 s78 s79 s80 s81 s82 s83 s84 s85 s86 s87 s88 s89 s90 s91 s92 s93 s94 s95 s96 s97 s98 s99 s100 s101 s102 s103 s104 s105 s106 s107 : Value) (Q : Exit → Act → World → Prop)
    (hQ : ∀ (u36 u37 u38 u39 u40 u41 u42 u43 u44 u45 u46 u47 u48 u49 u50 u51 u52 u53 u54 u55 u56 u57 u58 u59 u60 u61 u62 u63 u64 u65 u66 u67 : Value) (wx : World), SF w n1 n2 n3 n4 n5 n6 (.slice p7 1 c7) (.slice p8 1 c8) (.slice p9 0 c9) (.slice p10 1 c10) wx → Q .normal ⟨#[s0, .pointer (some ⟨n1, 0, none⟩), .pointer (some ⟨n2, 0, none⟩), .pointer (some ⟨n3, 0, none⟩), .pointer (some ⟨n4, 0, none⟩), .pointer (some ⟨n5, 0, none⟩), .pointer (some ⟨n6, 0, none⟩), .slice p7 1 c7, .slice p8 1 c8, .slice p9 0 c9, .slice p10 1 c10, .bool true, s12, s13, s14, s15, s16, s17, s18, s19, s20, s21, s22, s23, s24, s25, s26, s27, s28, s29, s30, s31, s32, s33, s34, s35, u36, u37, u38, u39, u40, u41, u42, u43, u44, u45, u46, u47, u48, u49, u50, u51, u52, u53, u54, u55, u56, u57, u58, u59, u60, u61, u62, u63, u64, u65, u66, u67, s68, s69, s70, s71, s72, s73, s74, s75, s76, s77, s78, s79, s80, s81, s82, s83, s84, s85, s86, s87, s88, s89, s90, s91, s92, s93, s94, s95, s96, s97, s98, s99, s100, s101, s102, s103, s104, s105, s106, s107], []⟩ wx) :
    reg9.wp Tryz.prog Q ⟨#[s0, .pointer (some ⟨n1, 0, none⟩), .pointer (some ⟨n2, 0, none⟩), .pointer (some ⟨n3, 0, none⟩), .pointer (some ⟨n4, 0, none⟩), .pointer (some ⟨n5, 0, none⟩), .pointer (some ⟨n6, 0, none⟩), .slice p7 1 c7, .slice p8 1 c8, .slice p9 0 c9, .slice p10 1 c10, s11, s12, s13, s14, s15, s16, s17, s18, s19, s20, s21, s22, s23, s24, s25, s26, s27, s28, s29, s30, s31, s32, s33, s34, s35, s36, s37, s38, s39, s40, s41, s42, s43, s44, s45, s46, s47, s48, s49, s50, s51, s52, s53, s54, s55, s56, s57, s58, s59, s60, s61, s62, s63, s64, s65, s66, s67, s68, s69, s70, s71, s72, s73, s74, s75, s76, s77, s78, s79, s80, s81, s82, s83, s84, s85, s86, s87, s88, s89, s90, s91, s92, s93, s94, s95, s96, s97, s98, s99, s100, s101, s102, s103, s104, s105, s106, s107], []⟩ wa := by
  conv => arg 2; whnf
  have HS : Hid (SF w n1 n2 n3 n4 n5 n6 (.slice p7 1 c7) (.slice p8 1 c8) (.slice p9 0 c9) (.slice p10 1 c10) wa) := Lib.hid hS
  have HQ := Lib.hid hQ
  clear hS hQ
  have cA0 := fun wr (h : SF w n1 n2 n3 n4 n5 n6 (.slice p7 1 c7) (.slice p8 1 c8) (.slice p9 0 c9) (.slice p10 1 c10) wr) => h.cA.1
  have cA1 := fun wr (h : SF w n1 n2 n3 n4 n5 n6 (.slice p7 1 c7) (.slice p8 1 c8) (.slice p9 0 c9) (.slice p10 1 c10) wr) => h.cA.2.1
  have cA2 := fun wr (h : SF w n1 n2 n3 n4 n5 n6 (.slice p7 1 c7) (.slice p8 1 c8) (.slice p9 0 c9) (.slice p10 1 c10) wr) => h.cA.2.2.1
  have cA3 := fun wr (h : SF w n1 n2 n3 n4 n5 n6 (.slice p7 1 c7) (.slice p8 1 c8) (.slice p9 0 c9) (.slice p10 1 c10) wr) => h.cA.2.2.2.1
  have cA4 := fun wr (h : SF w n1 n2 n3 n4 n5 n6 (.slice p7 1 c7) (.slice p8 1 c8) (.slice p9 0 c9) (.slice p10 1 c10) wr) => h.cA.2.2.2.2.1
  have cA5 := fun wr (h : SF w n1 n2 n3 n4 n5 n6 (.slice p7 1 c7) (.slice p8 1 c8) (.slice p9 0 c9) (.slice p10 1 c10) wr) => h.cA.2.2.2.2.2.1
  have cA6 := fun wr (h : SF w n1 n2 n3 n4 n5 n6 (.slice p7 1 c7) (.slice p8 1 c8) (.slice p9 0 c9) (.slice p10 1 c10) wr) => h.cA.2.2.2.2.2.2.1
  have cA7 := fun wr (h : SF w n1 n2 n3 n4 n5 n6 (.slice p7 1 c7) (.slice p8 1 c8) (.slice p9 0 c9) (.slice p10 1 c10) wr) => h.cA.2.2.2.2.2.2.2
  have cB0 := fun wr (h : SF w n1 n2 n3 n4 n5 n6 (.slice p7 1 c7) (.slice p8 1 c8) (.slice p9 0 c9) (.slice p10 1 c10) wr) => h.cB.1
  have cB1 := fun wr (h : SF w n1 n2 n3 n4 n5 n6 (.slice p7 1 c7) (.slice p8 1 c8) (.slice p9 0 c9) (.slice p10 1 c10) wr) => h.cB.2.1
  have cB2 := fun wr (h : SF w n1 n2 n3 n4 n5 n6 (.slice p7 1 c7) (.slice p8 1 c8) (.slice p9 0 c9) (.slice p10 1 c10) wr) => h.cB.2.2.1
  have cB3 := fun wr (h : SF w n1 n2 n3 n4 n5 n6 (.slice p7 1 c7) (.slice p8 1 c8) (.slice p9 0 c9) (.slice p10 1 c10) wr) => h.cB.2.2.2.1
  have cB4 := fun wr (h : SF w n1 n2 n3 n4 n5 n6 (.slice p7 1 c7) (.slice p8 1 c8) (.slice p9 0 c9) (.slice p10 1 c10) wr) => h.cB.2.2.2.2.1
  have cB5 := fun wr (h : SF w n1 n2 n3 n4 n5 n6 (.slice p7 1 c7) (.slice p8 1 c8) (.slice p9 0 c9) (.slice p10 1 c10) wr) => h.cB.2.2.2.2.2.1
  have cB6 := fun wr (h : SF w n1 n2 n3 n4 n5 n6 (.slice p7 1 c7) (.slice p8 1 c8) (.slice p9 0 c9) (.slice p10 1 c10) wr) => h.cB.2.2.2.2.2.2.1
  have cB7 := fun wr (h : SF w n1 n2 n3 n4 n5 n6 (.slice p7 1 c7) (.slice p8 1 c8) (.slice p9 0 c9) (.slice p10 1 c10) wr) => h.cB.2.2.2.2.2.2.2
  have cC0 := fun wr (h : SF w n1 n2 n3 n4 n5 n6 (.slice p7 1 c7) (.slice p8 1 c8) (.slice p9 0 c9) (.slice p10 1 c10) wr) => h.cC.1
  have cC1 := fun wr (h : SF w n1 n2 n3 n4 n5 n6 (.slice p7 1 c7) (.slice p8 1 c8) (.slice p9 0 c9) (.slice p10 1 c10) wr) => h.cC.2.1
  have cC2 := fun wr (h : SF w n1 n2 n3 n4 n5 n6 (.slice p7 1 c7) (.slice p8 1 c8) (.slice p9 0 c9) (.slice p10 1 c10) wr) => h.cC.2.2.1
  have cC3 := fun wr (h : SF w n1 n2 n3 n4 n5 n6 (.slice p7 1 c7) (.slice p8 1 c8) (.slice p9 0 c9) (.slice p10 1 c10) wr) => h.cC.2.2.2.1
  have cC4 := fun wr (h : SF w n1 n2 n3 n4 n5 n6 (.slice p7 1 c7) (.slice p8 1 c8) (.slice p9 0 c9) (.slice p10 1 c10) wr) => h.cC.2.2.2.2.1
  have cC5 := fun wr (h : SF w n1 n2 n3 n4 n5 n6 (.slice p7 1 c7) (.slice p8 1 c8) (.slice p9 0 c9) (.slice p10 1 c10) wr) => h.cC.2.2.2.2.2.1
  have cC6 := fun wr (h : SF w n1 n2 n3 n4 n5 n6 (.slice p7 1 c7) (.slice p8 1 c8) (.slice p9 0 c9) (.slice p10 1 c10) wr) => h.cC.2.2.2.2.2.2.1
  have cC7 := fun wr (h : SF w n1 n2 n3 n4 n5 n6 (.slice p7 1 c7) (.slice p8 1 c8) (.slice p9 0 c9) (.slice p10 1 c10) wr) => h.cC.2.2.2.2.2.2.2
  have cD0 := fun wr (h : SF w n1 n2 n3 n4 n5 n6 (.slice p7 1 c7) (.slice p8 1 c8) (.slice p9 0 c9) (.slice p10 1 c10) wr) => h.cD.1
  have cD1 := fun wr (h : SF w n1 n2 n3 n4 n5 n6 (.slice p7 1 c7) (.slice p8 1 c8) (.slice p9 0 c9) (.slice p10 1 c10) wr) => h.cD.2.1
  have cD2 := fun wr (h : SF w n1 n2 n3 n4 n5 n6 (.slice p7 1 c7) (.slice p8 1 c8) (.slice p9 0 c9) (.slice p10 1 c10) wr) => h.cD.2.2.1
  have cD3 := fun wr (h : SF w n1 n2 n3 n4 n5 n6 (.slice p7 1 c7) (.slice p8 1 c8) (.slice p9 0 c9) (.slice p10 1 c10) wr) => h.cD.2.2.2.1
  have cD4 := fun wr (h : SF w n1 n2 n3 n4 n5 n6 (.slice p7 1 c7) (.slice p8 1 c8) (.slice p9 0 c9) (.slice p10 1 c10) wr) => h.cD.2.2.2.2.1
  have cD5 := fun wr (h : SF w n1 n2 n3 n4 n5 n6 (.slice p7 1 c7) (.slice p8 1 c8) (.slice p9 0 c9) (.slice p10 1 c10) wr) => h.cD.2.2.2.2.2.1
  have cD6 := fun wr (h : SF w n1 n2 n3 n4 n5 n6 (.slice p7 1 c7) (.slice p8 1 c8) (.slice p9 0 c9) (.slice p10 1 c10) wr) => h.cD.2.2.2.2.2.2.1
  have cD7 := fun wr (h : SF w n1 n2 n3 n4 n5 n6 (.slice p7 1 c7) (.slice p8 1 c8) (.slice p9 0 c9) (.slice p10 1 c10) wr) => h.cD.2.2.2.2.2.2.2
  have cV0 := fun wr (h : SF w n1 n2 n3 n4 n5 n6 (.slice p7 1 c7) (.slice p8 1 c8) (.slice p9 0 c9) (.slice p10 1 c10) wr) => h.cV.1
  have cV1 := fun wr (h : SF w n1 n2 n3 n4 n5 n6 (.slice p7 1 c7) (.slice p8 1 c8) (.slice p9 0 c9) (.slice p10 1 c10) wr) => h.cV.2.1
  have cV2 := fun wr (h : SF w n1 n2 n3 n4 n5 n6 (.slice p7 1 c7) (.slice p8 1 c8) (.slice p9 0 c9) (.slice p10 1 c10) wr) => h.cV.2.2.1
  have cV3 := fun wr (h : SF w n1 n2 n3 n4 n5 n6 (.slice p7 1 c7) (.slice p8 1 c8) (.slice p9 0 c9) (.slice p10 1 c10) wr) => h.cV.2.2.2.1
  have cV4 := fun wr (h : SF w n1 n2 n3 n4 n5 n6 (.slice p7 1 c7) (.slice p8 1 c8) (.slice p9 0 c9) (.slice p10 1 c10) wr) => h.cV.2.2.2.2.1
  have cV5 := fun wr (h : SF w n1 n2 n3 n4 n5 n6 (.slice p7 1 c7) (.slice p8 1 c8) (.slice p9 0 c9) (.slice p10 1 c10) wr) => h.cV.2.2.2.2.2.1
  have cV6 := fun wr (h : SF w n1 n2 n3 n4 n5 n6 (.slice p7 1 c7) (.slice p8 1 c8) (.slice p9 0 c9) (.slice p10 1 c10) wr) => h.cV.2.2.2.2.2.2.1
  have cV7 := fun wr (h : SF w n1 n2 n3 n4 n5 n6 (.slice p7 1 c7) (.slice p8 1 c8) (.slice p9 0 c9) (.slice p10 1 c10) wr) => h.cV.2.2.2.2.2.2.2
  have cS0 := fun wr (h : SF w n1 n2 n3 n4 n5 n6 (.slice p7 1 c7) (.slice p8 1 c8) (.slice p9 0 c9) (.slice p10 1 c10) wr) => h.cS.1
  have cS1 := fun wr (h : SF w n1 n2 n3 n4 n5 n6 (.slice p7 1 c7) (.slice p8 1 c8) (.slice p9 0 c9) (.slice p10 1 c10) wr) => h.cS.2.1
  have cS2 := fun wr (h : SF w n1 n2 n3 n4 n5 n6 (.slice p7 1 c7) (.slice p8 1 c8) (.slice p9 0 c9) (.slice p10 1 c10) wr) => h.cS.2.2.1
  have cS3 := fun wr (h : SF w n1 n2 n3 n4 n5 n6 (.slice p7 1 c7) (.slice p8 1 c8) (.slice p9 0 c9) (.slice p10 1 c10) wr) => h.cS.2.2.2.1
  have cS4 := fun wr (h : SF w n1 n2 n3 n4 n5 n6 (.slice p7 1 c7) (.slice p8 1 c8) (.slice p9 0 c9) (.slice p10 1 c10) wr) => h.cS.2.2.2.2.1
  have cS5 := fun wr (h : SF w n1 n2 n3 n4 n5 n6 (.slice p7 1 c7) (.slice p8 1 c8) (.slice p9 0 c9) (.slice p10 1 c10) wr) => h.cS.2.2.2.2.2.1
  have cS6 := fun wr (h : SF w n1 n2 n3 n4 n5 n6 (.slice p7 1 c7) (.slice p8 1 c8) (.slice p9 0 c9) (.slice p10 1 c10) wr) => h.cS.2.2.2.2.2.2.1
  have cS7 := fun wr (h : SF w n1 n2 n3 n4 n5 n6 (.slice p7 1 c7) (.slice p8 1 c8) (.slice p9 0 c9) (.slice p10 1 c10) wr) => h.cS.2.2.2.2.2.2.2
  try dsimp only [List.append]
  go_region_held3 (fun wr => SF w n1 n2 n3 n4 n5 n6 (.slice p7 1 c7) (.slice p8 1 c8) (.slice p9 0 c9) (.slice p10 1 c10) wr) (first | with_reducible assumption | with_reducible exact SF.alloc (by with_reducible assumption) _ | with_reducible exact SF.aldrew (by first | with_reducible assumption | with_reducible exact HS.out.drew) _ | with_reducible exact HS.out.drew)
    (first
      | (go_at_call 27; (with_reducible refine (sc_redABC (by with_reducible assumption) (by first | with_reducible exact new_ABC _ rfl | with_reducible exact new_ABC _ (sz1 _ _) | with_reducible exact ims_alloc (new_ABC _ rfl) _ | with_reducible exact ims_drew (new_ABC _ rfl) | with_reducible exact ims_drew (new_ABC _ (sz1 _ _)) | with_reducible exact ims_drew (ims_alloc (new_ABC _ rfl) _))).mono ?_); rintro e wr1 ⟨pr1, cr1, rfl, hr1, hbr1, hSr1⟩; first | (have kr1 := IsMsgs.below (by first | with_reducible exact new_BC _ rfl | with_reducible exact new_BC _ (sz1 _ _) | with_reducible exact ims_alloc (new_BC _ rfl) _ | with_reducible exact ims_drew (new_BC _ rfl) | with_reducible exact ims_drew (new_BC _ (sz1 _ _)) | with_reducible exact ims_drew (ims_alloc (new_BC _ rfl) _)) hbr1; try simp only [World.size_alloc] at kr1) | skip)
      | (go_at_call 27; (with_reducible refine (sc_redASC (by with_reducible assumption) (by first | with_reducible exact new_ASC _ rfl | with_reducible exact new_ASC _ (sz1 _ _) | with_reducible exact ims_alloc (new_ASC _ rfl) _ | with_reducible exact ims_drew (new_ASC _ rfl) | with_reducible exact ims_drew (new_ASC _ (sz1 _ _)) | with_reducible exact ims_drew (ims_alloc (new_ASC _ rfl) _))).mono ?_); rintro e wr2 ⟨pr2, cr2, rfl, hr2, hbr2, hSr2⟩; first | (have kr2 := IsMsgs.below (by first | with_reducible exact new_C _ rfl | with_reducible exact new_C _ (sz1 _ _) | with_reducible exact ims_alloc (new_C _ rfl) _ | with_reducible exact ims_drew (new_C _ rfl) | with_reducible exact ims_drew (new_C _ (sz1 _ _)) | with_reducible exact ims_drew (ims_alloc (new_C _ rfl) _)) hbr2; try simp only [World.size_alloc] at kr2) | skip)
      | (go_at_call 25; (with_reducible refine (sc_fsame [mB, mC] (by with_reducible assumption) (by first | with_reducible assumption | with_reducible exact ims_alloc hr1 _) (by first | with_reducible exact new_BC _ rfl | with_reducible assumption)).mono ?_); rintro e ws1 ⟨rfl, hbws1, hSws1⟩)
      | (go_at_call 25; (with_reducible refine (sc_fsame [mC] (by with_reducible assumption) (by first | with_reducible assumption | with_reducible exact ims_alloc hr2 _) (by first | with_reducible exact new_C _ rfl | with_reducible assumption)).mono ?_); rintro e ws2 ⟨rfl, hbws2, hSws2⟩)
      | (go_at_call 25; (with_reducible refine (sc_fsame [mD] (by with_reducible assumption) (by exact SF.l7 (by with_reducible assumption)) (by with_reducible exact new_D _ rfl)).mono ?_); rintro e ws3 ⟨rfl, hbs3, hSs3⟩)
      | (go_at_call 26; (with_reducible refine (sc_fspans [dD] (by with_reducible assumption) (by exact SF.d8 (by with_reducible assumption)) (by with_reducible exact new_dD _ rfl)).mono ?_); rintro e ws4 ⟨rfl, hbs4, hSs4⟩)
      | fail "no arm")
  all_goals
    exact HQ.out _ _ _ _ _ _ _ _ _ _ _ _ _ _ _ _ _ _ _ _ _ _ _ _ _ _ _ _ _ _ _ _ _ (by with_reducible assumption)

end Fx
end Go.Proofs.YtpppkjcbheooeaaGreat
