/-
  Walks: region 10 of the fixed examples of package fold.
-/
import Derived.Test.YtpppkjcbheooeaaGreatGE
namespace Go.Proofs.YtpppkjcbheooeaaGreat
namespace Fx
open Go.RowKit Go.Sort
set_option linter.unusedVariables false

noncomputable def reg10 : Code := ((Tryz.f21.body.bind (codeReg 10)).getD .skip)
set_option maxRecDepth 1000000 in
set_option maxHeartbeats 16000000 in
theorem reg10_w (w wa : World) (n1 n2 n3 n4 n5 n6 : Nat) (p7 p8 p9 p10 : Option Addr) (c7 c8 c9 c10 : Nat) (hS : SF w n1 n2 n3 n4 n5 n6 (.slice p7 1 c7) (.slice p8 1 c8) (.slice p9 0 c9) (.slice p10 1 c10) wa) (s0 s12 s13 s14 s15 s16 s17 s18 s19 s20 s21 s22 s23 s24 s25 s26 s27 s28 s29 s30 s31 s32 s33 s34 s35 s36 s37 s38 s39 s40 s41 s42 s43 s44 s45 s46 s47 s48 s49 s50 s51 s52 s53 s54 s55 s56 s57 s58 s59 s60 s61 s62 s63 s64 s65 s66 s67 s68 s69 s70 s71 s72 s73 s74 s75 s76 s77 s78 s79 s80 s81 s82 s83 s84 s85 s86 s87 s88 s89 s90 s91 s92 s93 s94 s95 s96 s97 s98 s99 s100 s101 s102 s103 s104 s105 s106 s107 : Value) (Q : Exit → Act → World → Prop)
    (hQ : ∀ (u68 u69 u70 u71 u72 u73 u74 u75 u76 u77 u78 u79 u80 u81 u82 u83 u84 u85 u86 u87 : Value) (wx : World), SF w n1 n2 n3 n4 n5 n6 (.slice p7 1 c7) (.slice p8 1 c8) (.slice p9 0 c9) (.slice p10 1 c10) wx → Q .normal ⟨#[s0, .pointer (some ⟨n1, 0, none⟩), .pointer (some ⟨n2, 0, none⟩), .pointer (some ⟨n3, 0, none⟩), .pointer (some ⟨n4, 0, none⟩), .pointer (some ⟨n5, 0, none⟩), .pointer (some ⟨n6, 0, none⟩), .slice p7 1 c7, .slice p8 1 c8, .slice p9 0 c9, .slice p10 1 c10, .bool true, .bool true, s13, s14, s15, s16, s17, s18, s19, s20, s21, s22, s23, s24, s25, s26, s27, s28, s29, s30, s31, s32, s33, s34, s35, s36, s37, s38, s39, s40, s41, s42, s43, s44, s45, s46, s47, s48, s49, s50, s51, s52, s53, s54, s55, s56, s57, s58, s59, s60, s61, s62, s63, s64, s65, s66, s67, u68, u69, u70, u71, u72, u73, u74, u75, u76, u77, u78, u79, u80, u81, u82, u83, u84, u85, u86, u87, s88, s89, s90, s91, s92, s93, s94, s95, s96, s97, s98, s99, s100, s101, s102, s103, s104, s105, s106, s107], []⟩ wx) :
    reg10.wp Tryz.prog Q ⟨#[s0, .pointer (some ⟨n1, 0, none⟩), .pointer (some ⟨n2, 0, none⟩), .pointer (some ⟨n3, 0, none⟩), .pointer (some ⟨n4, 0, none⟩), .pointer (some ⟨n5, 0, none⟩), .pointer (some ⟨n6, 0, none⟩), .slice p7 1 c7, .slice p8 1 c8, .slice p9 0 c9, .slice p10 1 c10, .bool true, s12, s13, s14, s15, s16, s17, s18, s19, s20, s21, s22, s23, s24, s25, s26, s27, s28, s29, s30, s31, s32, s33, s34, s35, s36, s37, s38, s39, s40, s41, s42, s43, s44, s45, s46, s47, s48, s49, s50, s51, s52, s53, s54, s55, s56, s57, s58, s59, s60, s61, s62, s63, s64, s65, s66, s67, s68, s69, s70, s71, s72, s73, s74, s75, s76, s77, s78, s79, s80, s81, s82, s83, s84, s85, s86, s87, s88, s89, s90, s91, s92, s93, s94, s95, s96, s97, s98, s99, s100, s101, s102, s103, s104, s105, s106, s107], []⟩ wa := by
  conv => arg 2; whnf
  have HS : Hid (SF w n1 n2 n3 n4 n5 n6 (.slice p7 1 c7) (.slice p8 1 c8) (.slice p9 0 c9) (.slice p10 1 c10) wa) := Lib.hid hS
  have HQ := Lib.hid hQ
  clear hS hQ
  have cA0 := fun wr (h : SF w n1 n2 n3 n4 n5 n6 (.slice p7 1 c7) (.slice p8 1 c8) (.slice p9 0 c9) (.slice p10 1 c10) wr) => h.cA.1
  have cA1 := fun wr (h : SF w n1 n2 n3 n4 n5 n6 (.slice p7 1 c7) (.slice p8 1 c8) (.slice p9 0 c9) (.slice p10 1 c10) wr) => h.cA.2.1
  have cA2 := fun wr (h : SF w n1 n2 n3 n4 n5 n6 (.slice p7 1 c7) (.slice p8 1 c8) (.slice p9 0 c9) (.slice p10 1 c10) wr) => h.cA.2.2.1
  have cA3 := fun wr (h : SF w n1 n2 n3 n4 n5 n6 (.slice p7 1 c7) (.slice p8 1 c8) (.slice p9 0 c9) (.slice p10 1 c10) wr) => h.cA.2.2.2.1
  have cA4 := fun wr (h : SF w n1 n2 n3 n4 n5 n6 (.slice p7 1 c7) (.slice p8 1 c8) (.slice p9 0 c9) (.slice p10 1 c10) wr) => h.cA.2.2.2.2.1
  have cA5 := fun wr (h : SF w n1 n2 n3 n4 n5 n6 (.slice p7 1 c7) (.slice p8 1 c8) (.slice p9 0 c9) (.slice p10 1 c10) wr) => h.cA.2.2.2.2.2.1
  have cA6 := fun wr (h : SF w n1 n2 n3 n4 n5 n6 (.slice p7 1 c7) (.slice p8 1 c8) (.slice p9 0 c9) (.slice p10 1 c10) wr) => h.cA.2.2.2.2.2.2.1
  have cA7 := fun wr (h : SF w n1 n2 n3 n4 n5 n6 (.slice p7 1 c7) (.slice p8 1 c8) (.slice p9 0 c9) (.slice p10 1 c10) wr) => h.cA.2.2.2.2.2.2.2
  have cB0 := fun wr (h : SF w n1 n2 n3 n4 n5 n6 (.slice p7 1 c7) (.slice p8 1 c8) (.slice p9 0 c9) (.slice p10 1 c10) wr) => h.cB.1
  have cB1 := fun wr (h : SF w n1 n2 n3 n4 n5 n6 (.slice p7 1 c7) (.slice p8 1 c8) (.slice p9 0 c9) (.slice p10 1 c10) wr) => h.cB.2.1
  have cB2 := fun wr (h : SF w n1 n2 n3 n4 n5 n6 (.slice p7 1 c7) (.slice p8 1 c8) (.slice p9 0 c9) (.slice p10 1 c10) wr) => h.cB.2.2.1
  have cB3 := fun wr (h : SF w n1 n2 n3 n4 n5 n6 (.slice p7 1 c7) (.slice p8 1 c8) (.slice p9 0 c9) (.slice p10 1 c10) wr) => h.cB.2.2.2.1
  have cB4 := fun wr (h : SF w n1 n2 n3 n4 n5 n6 (.slice p7 1 c7) (.slice p8 1 c8) (.slice p9 0 c9) (.slice p10 1 c10) wr) => h.cB.2.2.2.2.1
  have cB5 := fun wr (h : SF w n1 n2 n3 n4 n5 n6 (.slice p7 1 c7) (.slice p8 1 c8) (.slice p9 0 c9) (.slice p10 1 c10) wr) => h.cB.2.2.2.2.2.1
  have cB6 := fun wr (h : SF w n1 n2 n3 n4 n5 n6 (.slice p7 1 c7) (.slice p8 1 c8) (.slice p9 0 c9) (.slice p10 1 c10) wr) => h.cB.2.2.2.2.2.2.1
  have cB7 := fun wr (h : SF w n1 n2 n3 n4 n5 n6 (.slice p7 1 c7) (.slice p8 1 c8) (.slice p9 0 c9) (.slice p10 1 c10) wr) => h.cB.2.2.2.2.2.2.2
  have cC0 := fun wr (h : SF w n1 n2 n3 n4 n5 n6 (.slice p7 1 c7) (.slice p8 1 c8) (.slice p9 0 c9) (.slice p10 1 c10) wr) => h.cC.1
  have cC1 := fun wr (h : SF w n1 n2 n3 n4 n5 n6 (.slice p7 1 c7) (.slice p8 1 c8) (.slice p9 0 c9) (.slice p10 1 c10) wr) => h.cC.2.1
  have cC2 := fun wr (h : SF w n1 n2 n3 n4 n5 n6 (.slice p7 1 c7) (.slice p8 1 c8) (.slice p9 0 c9) (.slice p10 1 c10) wr) => h.cC.2.2.1
  have cC3 := fun wr (h : SF w n1 n2 n3 n4 n5 n6 (.slice p7 1 c7) (.slice p8 1 c8) (.slice p9 0 c9) (.slice p10 1 c10) wr) => h.cC.2.2.2.1
  have cC4 := fun wr (h : SF w n1 n2 n3 n4 n5 n6 (.slice p7 1 c7) (.slice p8 1 c8) (.slice p9 0 c9) (.slice p10 1 c10) wr) => h.cC.2.2.2.2.1
  have cC5 := fun wr (h : SF w n1 n2 n3 n4 n5 n6 (.slice p7 1 c7) (.slice p8 1 c8) (.slice p9 0 c9) (.slice p10 1 c10) wr) => h.cC.2.2.2.2.2.1
  have cC6 := fun wr (h : SF w n1 n2 n3 n4 n5 n6 (.slice p7 1 c7) (.slice p8 1 c8) (.slice p9 0 c9) (.slice p10 1 c10) wr) => h.cC.2.2.2.2.2.2.1
  have cC7 := fun wr (h : SF w n1 n2 n3 n4 n5 n6 (.slice p7 1 c7) (.slice p8 1 c8) (.slice p9 0 c9) (.slice p10 1 c10) wr) => h.cC.2.2.2.2.2.2.2
  have cD0 := fun wr (h : SF w n1 n2 n3 n4 n5 n6 (.slice p7 1 c7) (.slice p8 1 c8) (.slice p9 0 c9) (.slice p10 1 c10) wr) => h.cD.1
  have cD1 := fun wr (h : SF w n1 n2 n3 n4 n5 n6 (.slice p7 1 c7) (.slice p8 1 c8) (.slice p9 0 c9) (.slice p10 1 c10) wr) => h.cD.2.1
  have cD2 := fun wr (h : SF w n1 n2 n3 n4 n5 n6 (.slice p7 1 c7) (.slice p8 1 c8) (.slice p9 0 c9) (.slice p10 1 c10) wr) => h.cD.2.2.1
  have cD3 := fun wr (h : SF w n1 n2 n3 n4 n5 n6 (.slice p7 1 c7) (.slice p8 1 c8) (.slice p9 0 c9) (.slice p10 1 c10) wr) => h.cD.2.2.2.1
  have cD4 := fun wr (h : SF w n1 n2 n3 n4 n5 n6 (.slice p7 1 c7) (.slice p8 1 c8) (.slice p9 0 c9) (.slice p10 1 c10) wr) => h.cD.2.2.2.2.1
  have cD5 := fun wr (h : SF w n1 n2 n3 n4 n5 n6 (.slice p7 1 c7) (.slice p8 1 c8) (.slice p9 0 c9) (.slice p10 1 c10) wr) => h.cD.2.2.2.2.2.1
  have cD6 := fun wr (h : SF w n1 n2 n3 n4 n5 n6 (.slice p7 1 c7) (.slice p8 1 c8) (.slice p9 0 c9) (.slice p10 1 c10) wr) => h.cD.2.2.2.2.2.2.1
  have cD7 := fun wr (h : SF w n1 n2 n3 n4 n5 n6 (.slice p7 1 c7) (.slice p8 1 c8) (.slice p9 0 c9) (.slice p10 1 c10) wr) => h.cD.2.2.2.2.2.2.2
  have cV0 := fun wr (h : SF w n1 n2 n3 n4 n5 n6 (.slice p7 1 c7) (.slice p8 1 c8) (.slice p9 0 c9) (.slice p10 1 c10) wr) => h.cV.1
  have cV1 := fun wr (h : SF w n1 n2 n3 n4 n5 n6 (.slice p7 1 c7) (.slice p8 1 c8) (.slice p9 0 c9) (.slice p10 1 c10) wr) => h.cV.2.1
  have cV2 := fun wr (h : SF w n1 n2 n3 n4 n5 n6 (.slice p7 1 c7) (.slice p8 1 c8) (.slice p9 0 c9) (.slice p10 1 c10) wr) => h.cV.2.2.1
  have cV3 := fun wr (h : SF w n1 n2 n3 n4 n5 n6 (.slice p7 1 c7) (.slice p8 1 c8) (.slice p9 0 c9) (.slice p10 1 c10) wr) => h.cV.2.2.2.1
  have cV4 := fun wr (h : SF w n1 n2 n3 n4 n5 n6 (.slice p7 1 c7) (.slice p8 1 c8) (.slice p9 0 c9) (.slice p10 1 c10) wr) => h.cV.2.2.2.2.1
  have cV5 := fun wr (h : SF w n1 n2 n3 n4 n5 n6 (.slice p7 1 c7) (.slice p8 1 c8) (.slice p9 0 c9) (.slice p10 1 c10) wr) => h.cV.2.2.2.2.2.1
  have cV6 := fun wr (h : SF w n1 n2 n3 n4 n5 n6 (.slice p7 1 c7) (.slice p8 1 c8) (.slice p9 0 c9) (.slice p10 1 c10) wr) => h.cV.2.2.2.2.2.2.1
  have cV7 := fun wr (h : SF w n1 n2 n3 n4 n5 n6 (.slice p7 1 c7) (.slice p8 1 c8) (.slice p9 0 c9) (.slice p10 1 c10) wr) => h.cV.2.2.2.2.2.2.2
  have cS0 := fun wr (h : SF w n1 n2 n3 n4 n5 n6 (.slice p7 1 c7) (.slice p8 1 c8) (.slice p9 0 c9) (.slice p10 1 c10) wr) => h.cS.1
  have cS1 := fun wr (h : SF w n1 n2 n3 n4 n5 n6 (.slice p7 1 c7) (.slice p8 1 c8) (.slice p9 0 c9) (.slice p10 1 c10) wr) => h.cS.2.1
  have cS2 := fun wr (h : SF w n1 n2 n3 n4 n5 n6 (.slice p7 1 c7) (.slice p8 1 c8) (.slice p9 0 c9) (.slice p10 1 c10) wr) => h.cS.2.2.1
  have cS3 := fun wr (h : SF w n1 n2 n3 n4 n5 n6 (.slice p7 1 c7) (.slice p8 1 c8) (.slice p9 0 c9) (.slice p10 1 c10) wr) => h.cS.2.2.2.1
  have cS4 := fun wr (h : SF w n1 n2 n3 n4 n5 n6 (.slice p7 1 c7) (.slice p8 1 c8) (.slice p9 0 c9) (.slice p10 1 c10) wr) => h.cS.2.2.2.2.1
  have cS5 := fun wr (h : SF w n1 n2 n3 n4 n5 n6 (.slice p7 1 c7) (.slice p8 1 c8) (.slice p9 0 c9) (.slice p10 1 c10) wr) => h.cS.2.2.2.2.2.1
  have cS6 := fun wr (h : SF w n1 n2 n3 n4 n5 n6 (.slice p7 1 c7) (.slice p8 1 c8) (.slice p9 0 c9) (.slice p10 1 c10) wr) => h.cS.2.2.2.2.2.2.1
  have cS7 := fun wr (h : SF w n1 n2 n3 n4 n5 n6 (.slice p7 1 c7) (.slice p8 1 c8) (.slice p9 0 c9) (.slice p10 1 c10) wr) => h.cS.2.2.2.2.2.2.2
  try dsimp only [List.append]
  go_region_held3 (fun wr => SF w n1 n2 n3 n4 n5 n6 (.slice p7 1 c7) (.slice p8 1 c8) (.slice p9 0 c9) (.slice p10 1 c10) wr) (first | with_reducible assumption | with_reducible exact SF.alloc (by with_reducible assumption) _ | with_reducible exact SF.aldrew (by first | with_reducible assumption | with_reducible exact HS.out.drew) _ | with_reducible exact HS.out.drew)
    (first
      | (go_at_call 27; (with_reducible refine (sc_redAVD (by with_reducible assumption) (by first | with_reducible exact new_AVD _ rfl | with_reducible exact new_AVD _ (sz1 _ _) | with_reducible exact new_AVD _ (sz2 _ _ _) | with_reducible exact ims_alloc (new_AVD _ rfl) _ | with_reducible exact ims_alloc (new_AVD _ (sz1 _ _)) _ | with_reducible exact ims_drew (new_AVD _ rfl) | with_reducible exact ims_drew (new_AVD _ (sz1 _ _)) | with_reducible exact ims_drew (new_AVD _ (sz2 _ _ _)) | with_reducible exact ims_drew (ims_alloc (new_AVD _ rfl) _) | with_reducible exact ims_drew (ims_alloc (new_AVD _ (sz1 _ _)) _) | fail "no list")).mono ?_); rintro e wr1 ⟨pr1, cr1, rfl, hr1, hbr1, hSr1⟩; (first | (have kr1a := IsMsgs.below (by first | with_reducible exact new_AVD _ rfl | with_reducible exact ims_drew (new_AVD _ rfl) | fail "no list") hbr1; try simp only [World.size_alloc] at kr1a) | skip); (first | (have kr1b := IsMsgs.below (by first | with_reducible exact ims_alloc (new_AVD _ rfl) _ | with_reducible exact ims_drew (ims_alloc (new_AVD _ rfl) _) | fail "no list") hbr1; try simp only [World.size_alloc] at kr1b) | skip); (first | (have kr1c := IsMsgs.below (by first | with_reducible exact ims_alloc (ims_alloc (new_AVD _ rfl) _) _ | with_reducible exact ims_drew (ims_alloc (ims_alloc (new_AVD _ rfl) _) _) | fail "no list") hbr1; try simp only [World.size_alloc] at kr1c) | skip))
      | (go_at_call 25; (with_reducible refine (sc_fsame [mA, mV, mD] (by with_reducible assumption) (by first | with_reducible assumption | with_reducible exact ims_alloc hr1 _) (by first | with_reducible exact new_AVD _ rfl | with_reducible assumption)).mono ?_); rintro e ws1 ⟨rfl, hbws1, hSws1⟩)
      | (go_at_call 29; (with_reducible refine (sc_mergeBV (by with_reducible assumption) (by first | with_reducible exact new_B _ rfl | with_reducible exact new_B _ (sz1 _ _) | with_reducible exact new_B _ (sz2 _ _ _) | with_reducible exact ims_alloc (new_B _ rfl) _ | with_reducible exact ims_alloc (new_B _ (sz1 _ _)) _ | with_reducible exact ims_alloc (ims_alloc (new_B _ rfl) _) _ | with_reducible exact ims_alloc (ims_alloc (new_B _ (sz1 _ _)) _) _ | fail "no list") (by first | with_reducible exact new_V _ rfl | with_reducible exact new_V _ (sz1 _ _) | with_reducible exact new_V _ (sz2 _ _ _) | with_reducible exact ims_alloc (new_V _ rfl) _ | with_reducible exact ims_alloc (new_V _ (sz1 _ _)) _ | with_reducible exact ims_alloc (ims_alloc (new_V _ rfl) _) _ | with_reducible exact ims_alloc (ims_alloc (new_V _ (sz1 _ _)) _) _ | fail "no list")).mono ?_); rintro e wr2 ⟨pr2, cr2, rfl, hr2, hbr2, hSr2⟩; (first | (have kr2a := IsMsgs.below (by first | with_reducible exact new_V _ rfl | fail "no list") hbr2; try simp only [World.size_alloc] at kr2a) | skip); (first | (have kr2b := IsMsgs.below (by first | with_reducible exact ims_alloc (new_V _ rfl) _ | fail "no list") hbr2; try simp only [World.size_alloc] at kr2b) | skip); (first | (have kr2c := IsMsgs.below (by first | with_reducible exact ims_alloc (ims_alloc (new_V _ rfl) _) _ | fail "no list") hbr2; try simp only [World.size_alloc] at kr2c) | skip))
      | (go_at_call 25; (with_reducible refine (sc_fsame [mV] (by with_reducible assumption) (by first | with_reducible assumption | with_reducible exact ims_alloc hr2 _) (by first | with_reducible exact new_V _ rfl | with_reducible assumption)).mono ?_); rintro e ws2 ⟨rfl, hbws2, hSws2⟩)
      | fail "no arm")
  all_goals
    exact HQ.out _ _ _ _ _ _ _ _ _ _ _ _ _ _ _ _ _ _ _ _ _ (by with_reducible assumption)

end Fx
end Go.Proofs.YtpppkjcbheooeaaGreat
