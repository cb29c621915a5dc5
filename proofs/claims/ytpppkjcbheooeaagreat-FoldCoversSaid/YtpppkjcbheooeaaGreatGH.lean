/-
  Walks: the fixed examples that every law of package fold tries.
-/
import Derived.Test.YtpppkjcbheooeaaGreatGF
import Derived.Test.YtpppkjcbheooeaaGreatGG
namespace Go.Proofs.YtpppkjcbheooeaaGreat
namespace Fx
open Go.RowKit Go.Sort
set_option linter.unusedVariables false
/-- The messages of the examples in their boxes. -/
structure SB (w : World) (n1 n2 n3 n4 n5 n6 : Nat) (wx : World) : Prop where
  bA : Blk wx n1 25 (encM mA)
  bB : Blk wx n2 25 (encM mB)
  bC : Blk wx n3 25 (encM mC)
  bD : Blk wx n4 25 (encM mD)
  bV : Blk wx n5 25 (encM mV)
  bS : Blk wx n6 25 (encM mS)
  g : Below w.heap.size w wx
section
variable {w wx wy : World} {n1 n2 n3 n4 n5 n6 : Nat}
theorem SB.below (h : SB w n1 n2 n3 n4 n5 n6 wx) (hb : Below wx.heap.size wx wy) : SB w n1 n2 n3 n4 n5 n6 wy := ⟨h.bA.below hb h.bA.lt, h.bB.below hb h.bB.lt, h.bC.below hb h.bC.lt, h.bD.below hb h.bD.lt, h.bV.below hb h.bV.lt, h.bS.below hb h.bS.lt, h.g.trans (hb.mono h.g.size)⟩
theorem SB.alloc (h : SB w n1 n2 n3 n4 n5 n6 wx) (o : Obj) : SB w n1 n2 n3 n4 n5 n6 (wx.alloc o) := h.below (below_box _)
theorem SB.cA (h : SB w n1 n2 n3 n4 n5 n6 wx) : wx.cell? ⟨n1, 0, none⟩ = some (.int .i64 1) ∧ wx.cell? ⟨n1, 1, none⟩ = some (.string ⟨#[97, 47, 1]⟩) ∧ wx.cell? ⟨n1, 2, none⟩ = some (.string ⟨#[49]⟩) ∧ wx.cell? ⟨n1, 3, none⟩ = some (.string ⟨#[]⟩) ∧ wx.cell? ⟨n1, 4, none⟩ = some (.string ⟨#[]⟩) ∧ wx.cell? ⟨n1, 5, none⟩ = some (.string ⟨#[]⟩) ∧ wx.cell? ⟨n1, 6, none⟩ = some (.string ⟨#[]⟩) ∧ wx.cell? ⟨n1, 7, none⟩ = some (.int .i64 0) := ⟨h.bA.c0 0 _ rfl, h.bA.c0 1 _ rfl, h.bA.c0 2 _ rfl, h.bA.c0 3 _ rfl, h.bA.c0 4 _ rfl, h.bA.c0 5 _ rfl, h.bA.c0 6 _ rfl, h.bA.c0 7 _ rfl⟩
theorem SB.cB (h : SB w n1 n2 n3 n4 n5 n6 wx) : wx.cell? ⟨n2, 0, none⟩ = some (.int .i64 1) ∧ wx.cell? ⟨n2, 1, none⟩ = some (.string ⟨#[98, 47, 1]⟩) ∧ wx.cell? ⟨n2, 2, none⟩ = some (.string ⟨#[]⟩) ∧ wx.cell? ⟨n2, 3, none⟩ = some (.string ⟨#[]⟩) ∧ wx.cell? ⟨n2, 4, none⟩ = some (.string ⟨#[]⟩) ∧ wx.cell? ⟨n2, 5, none⟩ = some (.string ⟨#[]⟩) ∧ wx.cell? ⟨n2, 6, none⟩ = some (.string ⟨#[]⟩) ∧ wx.cell? ⟨n2, 7, none⟩ = some (.int .i64 0) := ⟨h.bB.c0 0 _ rfl, h.bB.c0 1 _ rfl, h.bB.c0 2 _ rfl, h.bB.c0 3 _ rfl, h.bB.c0 4 _ rfl, h.bB.c0 5 _ rfl, h.bB.c0 6 _ rfl, h.bB.c0 7 _ rfl⟩
theorem SB.cC (h : SB w n1 n2 n3 n4 n5 n6 wx) : wx.cell? ⟨n3, 0, none⟩ = some (.int .i64 1) ∧ wx.cell? ⟨n3, 1, none⟩ = some (.string ⟨#[97, 47, 1]⟩) ∧ wx.cell? ⟨n3, 2, none⟩ = some (.string ⟨#[50]⟩) ∧ wx.cell? ⟨n3, 3, none⟩ = some (.string ⟨#[]⟩) ∧ wx.cell? ⟨n3, 4, none⟩ = some (.string ⟨#[]⟩) ∧ wx.cell? ⟨n3, 5, none⟩ = some (.string ⟨#[]⟩) ∧ wx.cell? ⟨n3, 6, none⟩ = some (.string ⟨#[]⟩) ∧ wx.cell? ⟨n3, 7, none⟩ = some (.int .i64 0) := ⟨h.bC.c0 0 _ rfl, h.bC.c0 1 _ rfl, h.bC.c0 2 _ rfl, h.bC.c0 3 _ rfl, h.bC.c0 4 _ rfl, h.bC.c0 5 _ rfl, h.bC.c0 6 _ rfl, h.bC.c0 7 _ rfl⟩
theorem SB.cD (h : SB w n1 n2 n3 n4 n5 n6 wx) : wx.cell? ⟨n4, 0, none⟩ = some (.int .i64 3) ∧ wx.cell? ⟨n4, 1, none⟩ = some (.string ⟨#[]⟩) ∧ wx.cell? ⟨n4, 2, none⟩ = some (.string ⟨#[]⟩) ∧ wx.cell? ⟨n4, 3, none⟩ = some (.string ⟨#[97, 47]⟩) ∧ wx.cell? ⟨n4, 4, none⟩ = some (.string ⟨#[97, 48]⟩) ∧ wx.cell? ⟨n4, 5, none⟩ = some (.string ⟨#[]⟩) ∧ wx.cell? ⟨n4, 6, none⟩ = some (.string ⟨#[]⟩) ∧ wx.cell? ⟨n4, 7, none⟩ = some (.int .i64 0) := ⟨h.bD.c0 0 _ rfl, h.bD.c0 1 _ rfl, h.bD.c0 2 _ rfl, h.bD.c0 3 _ rfl, h.bD.c0 4 _ rfl, h.bD.c0 5 _ rfl, h.bD.c0 6 _ rfl, h.bD.c0 7 _ rfl⟩
theorem SB.cV (h : SB w n1 n2 n3 n4 n5 n6 wx) : wx.cell? ⟨n5, 0, none⟩ = some (.int .i64 4) ∧ wx.cell? ⟨n5, 1, none⟩ = some (.string ⟨#[]⟩) ∧ wx.cell? ⟨n5, 2, none⟩ = some (.string ⟨#[]⟩) ∧ wx.cell? ⟨n5, 3, none⟩ = some (.string ⟨#[]⟩) ∧ wx.cell? ⟨n5, 4, none⟩ = some (.string ⟨#[]⟩) ∧ wx.cell? ⟨n5, 5, none⟩ = some (.string ⟨#[97, 47]⟩) ∧ wx.cell? ⟨n5, 6, none⟩ = some (.string ⟨#[98, 47]⟩) ∧ wx.cell? ⟨n5, 7, none⟩ = some (.int .i64 0) := ⟨h.bV.c0 0 _ rfl, h.bV.c0 1 _ rfl, h.bV.c0 2 _ rfl, h.bV.c0 3 _ rfl, h.bV.c0 4 _ rfl, h.bV.c0 5 _ rfl, h.bV.c0 6 _ rfl, h.bV.c0 7 _ rfl⟩
theorem SB.cS (h : SB w n1 n2 n3 n4 n5 n6 wx) : wx.cell? ⟨n6, 0, none⟩ = some (.int .i64 6) ∧ wx.cell? ⟨n6, 1, none⟩ = some (.string ⟨#[]⟩) ∧ wx.cell? ⟨n6, 2, none⟩ = some (.string ⟨#[]⟩) ∧ wx.cell? ⟨n6, 3, none⟩ = some (.string ⟨#[97, 47, 1]⟩) ∧ wx.cell? ⟨n6, 4, none⟩ = some (.string ⟨#[97, 47, 1, 0]⟩) ∧ wx.cell? ⟨n6, 5, none⟩ = some (.string ⟨#[]⟩) ∧ wx.cell? ⟨n6, 6, none⟩ = some (.string ⟨#[]⟩) ∧ wx.cell? ⟨n6, 7, none⟩ = some (.int .i64 7) := ⟨h.bS.c0 0 _ rfl, h.bS.c0 1 _ rfl, h.bS.c0 2 _ rfl, h.bS.c0 3 _ rfl, h.bS.c0 4 _ rfl, h.bS.c0 5 _ rfl, h.bS.c0 6 _ rfl, h.bS.c0 7 _ rfl⟩
end
theorem SB.start (w : World) : SB w (w.heap.size) (w.heap.size + 1) (w.heap.size + 1 + 1) (w.heap.size + 1 + 1 + 1) (w.heap.size + 1 + 1 + 1 + 1) (w.heap.size + 1 + 1 + 1 + 1 + 1) (((((((w).alloc (.cells #[.int .i64 1, .string ⟨#[97, 47, 1]⟩, .string ⟨#[49]⟩, .string ⟨#[]⟩, .string ⟨#[]⟩, .string ⟨#[]⟩, .string ⟨#[]⟩, .int .i64 0] 25)).alloc (.cells #[.int .i64 1, .string ⟨#[98, 47, 1]⟩, .string ⟨#[]⟩, .string ⟨#[]⟩, .string ⟨#[]⟩, .string ⟨#[]⟩, .string ⟨#[]⟩, .int .i64 0] 25)).alloc (.cells #[.int .i64 1, .string ⟨#[97, 47, 1]⟩, .string ⟨#[50]⟩, .string ⟨#[]⟩, .string ⟨#[]⟩, .string ⟨#[]⟩, .string ⟨#[]⟩, .int .i64 0] 25)).alloc (.cells #[.int .i64 3, .string ⟨#[]⟩, .string ⟨#[]⟩, .string ⟨#[97, 47]⟩, .string ⟨#[97, 48]⟩, .string ⟨#[]⟩, .string ⟨#[]⟩, .int .i64 0] 25)).alloc (.cells #[.int .i64 4, .string ⟨#[]⟩, .string ⟨#[]⟩, .string ⟨#[]⟩, .string ⟨#[]⟩, .string ⟨#[97, 47]⟩, .string ⟨#[98, 47]⟩, .int .i64 0] 25)).alloc (.cells #[.int .i64 6, .string ⟨#[]⟩, .string ⟨#[]⟩, .string ⟨#[97, 47, 1]⟩, .string ⟨#[97, 47, 1, 0]⟩, .string ⟨#[]⟩, .string ⟨#[]⟩, .int .i64 7] 25)) where
  bA := (((((Blk.new _ _ _).alloc _).alloc _).alloc _).alloc _).alloc _
  bB := ((((Blk.new' _ _ _ (by simp)).alloc _).alloc _).alloc _).alloc _
  bC := (((Blk.new' _ _ _ (by simp)).alloc _).alloc _).alloc _
  bD := ((Blk.new' _ _ _ (by simp)).alloc _).alloc _
  bV := (Blk.new' _ _ _ (by simp)).alloc _
  bS := Blk.new' _ _ _ (by simp)
  g := ((((((below_box _)).alloc (by simp) _).alloc (by simp; omega) _).alloc (by simp; omega) _).alloc (by simp; omega) _).alloc (by simp; omega) _
set_option maxRecDepth 1000000 in
set_option maxHeartbeats 8000000 in
theorem fsanity_w (w : World) : Calls Tryz.prog 21 #[] w fun e w' => e = .returned (.bool true) ∧ Below w.heap.size w w' := by
  obtain ⟨wa, hwa⟩ : ∃ wa, wa = ((((((w).alloc (.cells #[.int .i64 1, .string ⟨#[97, 47, 1]⟩, .string ⟨#[49]⟩, .string ⟨#[]⟩, .string ⟨#[]⟩, .string ⟨#[]⟩, .string ⟨#[]⟩, .int .i64 0] 25)).alloc (.cells #[.int .i64 1, .string ⟨#[98, 47, 1]⟩, .string ⟨#[]⟩, .string ⟨#[]⟩, .string ⟨#[]⟩, .string ⟨#[]⟩, .string ⟨#[]⟩, .int .i64 0] 25)).alloc (.cells #[.int .i64 1, .string ⟨#[97, 47, 1]⟩, .string ⟨#[50]⟩, .string ⟨#[]⟩, .string ⟨#[]⟩, .string ⟨#[]⟩, .string ⟨#[]⟩, .int .i64 0] 25)).alloc (.cells #[.int .i64 3, .string ⟨#[]⟩, .string ⟨#[]⟩, .string ⟨#[97, 47]⟩, .string ⟨#[97, 48]⟩, .string ⟨#[]⟩, .string ⟨#[]⟩, .int .i64 0] 25)).alloc (.cells #[.int .i64 4, .string ⟨#[]⟩, .string ⟨#[]⟩, .string ⟨#[]⟩, .string ⟨#[]⟩, .string ⟨#[97, 47]⟩, .string ⟨#[98, 47]⟩, .int .i64 0] 25)).alloc (.cells #[.int .i64 6, .string ⟨#[]⟩, .string ⟨#[]⟩, .string ⟨#[97, 47, 1]⟩, .string ⟨#[97, 47, 1, 0]⟩, .string ⟨#[]⟩, .string ⟨#[]⟩, .int .i64 7] 25) := ⟨_, rfl⟩
  have HS : Hid (SB w (w.heap.size) (w.heap.size + 1) (w.heap.size + 1 + 1) (w.heap.size + 1 + 1 + 1) (w.heap.size + 1 + 1 + 1 + 1) (w.heap.size + 1 + 1 + 1 + 1 + 1) wa) := Lib.hid (by rw [hwa]; exact SB.start w)
  go_enter Tryz.func21, Tryz.ntmps21
  go_upto_region 7 with fail
  rw [← hwa]
  clear hwa
  generalize w.heap.size + 1 + 1 + 1 + 1 + 1 = n6 at *
  generalize w.heap.size + 1 + 1 + 1 + 1 = n5 at *
  generalize w.heap.size + 1 + 1 + 1 = n4 at *
  generalize w.heap.size + 1 + 1 = n3 at *
  generalize w.heap.size + 1 = n2 at *
  generalize hn1 : w.heap.size = n1 at *
  have Hn1 := Lib.hid hn1
  clear hn1
  have cA0 := HS.out.cA.1
  have cA1 := HS.out.cA.2.1
  have cA2 := HS.out.cA.2.2.1
  have cA3 := HS.out.cA.2.2.2.1
  have cA4 := HS.out.cA.2.2.2.2.1
  have cA5 := HS.out.cA.2.2.2.2.2.1
  have cA6 := HS.out.cA.2.2.2.2.2.2.1
  have cA7 := HS.out.cA.2.2.2.2.2.2.2
  have cD0 := HS.out.cD.1
  have cD1 := HS.out.cD.2.1
  have cD2 := HS.out.cD.2.2.1
  have cD3 := HS.out.cD.2.2.2.1
  have cD4 := HS.out.cD.2.2.2.2.1
  have cD5 := HS.out.cD.2.2.2.2.2.1
  have cD6 := HS.out.cD.2.2.2.2.2.2.1
  have cD7 := HS.out.cD.2.2.2.2.2.2.2
  go_wp2_with fail
  refine (sc_live1 _ (new_AD wa rfl)).mono ?_
  rintro e w7 ⟨p7, c7, p8, c8, rfl, h7, h8, hb7⟩
  have HS7 := Lib.hid ((HS.out.alloc _).below hb7)
  have H7 := Lib.hid h7
  have H8 := Lib.hid h8
  clear hb7 h7 h8 HS cA0 cD0 cA1 cD1 cA2 cD2 cA3 cD3 cA4 cD4 cA5 cD5 cA6 cD6 cA7 cD7
  have cA0 := HS7.out.cA.1
  have cA1 := HS7.out.cA.2.1
  have cA2 := HS7.out.cA.2.2.1
  have cA3 := HS7.out.cA.2.2.2.1
  have cA4 := HS7.out.cA.2.2.2.2.1
  have cA5 := HS7.out.cA.2.2.2.2.2.1
  have cA6 := HS7.out.cA.2.2.2.2.2.2.1
  have cA7 := HS7.out.cA.2.2.2.2.2.2.2
  go_wp2_with fail
  refine (sc_live2 _ (ims_alloc (new_A w7 rfl) _) (new_d0 _ (by simp))).mono ?_
  rintro e w8 ⟨p9, c9, p10, c10, rfl, h9, h10, hb8⟩
  have hbw : Below w7.heap.size w7 w8 := ((below_box _).alloc (by simp) _).trans (hb8.mono (by simp; omega))
  have HF := Lib.hid (SF.mk (v7 := .slice p7 1 c7) (v8 := .slice p8 1 c8) (v9 := .slice p9 0 c9) (v10 := .slice p10 1 c10) (HS7.out.below hbw).bA (HS7.out.below hbw).bB (HS7.out.below hbw).bC (HS7.out.below hbw).bD (HS7.out.below hbw).bV (HS7.out.below hbw).bS (H7.out.below hbw) h9 (H8.out.below hbw) h10 (HS7.out.below hbw).g)
  clear hb8 h9 h10 hbw HS7 H7 H8 cA0 cA1 cA2 cA3 cA4 cA5 cA6 cA7
  go_upto_region 9 with fail
  go_cut [11] (fun s11 wx => s11 = .bool true ∧ Hid (SF w n1 n2 n3 n4 n5 n6 (.slice p7 1 c7) (.slice p8 1 c8) (.slice p9 0 c9) (.slice p10 1 c10) wx))
  case first =>
    refine reg9_w w _ n1 n2 n3 n4 n5 n6 p7 p8 p9 p10 c7 c8 c9 c10 HF.out _ _ _ _ _ _ _ _ _ _ _ _ _ _ _ _ _ _ _ _ _ _ _ _ _ _ _ _ _ _ _ _ _ _ _ _ _ _ _ _ _ _ _ _ _ _ _ _ _ _ _ _ _ _ _ _ _ _ _ _ _ _ _ _ _ _ _ _ _ _ _ _ _ _ _ _ _ _ _ _ _ _ _ _ _ _ _ _ _ _ _ _ _ _ _ _ _ _ _ ?_
    intro u36 u37 u38 u39 u40 u41 u42 u43 u44 u45 u46 u47 u48 u49 u50 u51 u52 u53 u54 u55 u56 u57 u58 u59 u60 u61 u62 u63 u64 u65 u66 u67 wx hS
    have HS4 := Lib.hid hS
    clear hS
    go_wp2_with fail
    go_meet
    exact ⟨rfl, HS4⟩
  case rest =>
    obtain ⟨rfl, HF9⟩ := hcut
    clear HF
    go_upto_region 10 with fail
    go_cut [12] (fun s12 wx => s12 = .bool true ∧ Hid (SF w n1 n2 n3 n4 n5 n6 (.slice p7 1 c7) (.slice p8 1 c8) (.slice p9 0 c9) (.slice p10 1 c10) wx))
    case first =>
      refine reg10_w w _ n1 n2 n3 n4 n5 n6 p7 p8 p9 p10 c7 c8 c9 c10 HF9.out _ _ _ _ _ _ _ _ _ _ _ _ _ _ _ _ _ _ _ _ _ _ _ _ _ _ _ _ _ _ _ _ _ _ _ _ _ _ _ _ _ _ _ _ _ _ _ _ _ _ _ _ _ _ _ _ _ _ _ _ _ _ _ _ _ _ _ _ _ _ _ _ _ _ _ _ _ _ _ _ _ _ _ _ _ _ _ _ _ _ _ _ _ _ _ _ _ _ ?_
      intro u68 u69 u70 u71 u72 u73 u74 u75 u76 u77 u78 u79 u80 u81 u82 u83 u84 u85 u86 u87 wx hS
      have HS4 := Lib.hid hS
      clear hS
      go_wp2_with fail
      go_meet
      exact ⟨rfl, HS4⟩
    case rest =>
      obtain ⟨rfl, HF10⟩ := hcut
      clear HF9
      go_wp2_with fail
      refine (sc_fspans [([], [])] (HF10.out.alloc _) (HF10.out.d10.below (below_box _)) (new_d0 wc rfl)).mono ?_
      rintro e w11 ⟨rfl, hb11, hS11⟩
      have HS11 := Lib.hid hS11
      clear hb11 hS11 HF10
      go_wp2_with fail
      refine (sc_red0 w11).mono ?_
      rintro e w12 ⟨p12, c12, rfl, hb12⟩
      have HB := Lib.hid (HS11.out.g.trans (hb12.mono HS11.out.g.size))
      clear hb12
      go_wp2
      go_ret
      exact ⟨rfl, HB.out⟩

end Fx
end Go.Proofs.YtpppkjcbheooeaaGreat
