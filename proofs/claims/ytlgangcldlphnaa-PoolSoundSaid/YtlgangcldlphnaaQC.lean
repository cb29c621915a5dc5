/-
  Walks: the fixed examples of law 11.
-/
import Derived.Test.YtlgangcldlphnaaQB
namespace Go.Proofs.Ytlgangcldlphnaa
open Go.RowKit Go.Sort
set_option linter.unusedVariables false
set_option maxRecDepth 100000

theorem slots_lit {w : World} {n : Nat} (hn : n = w.heap.size) : IsSlots (w.alloc (.cells #[.bool true, .bool true, .int .i64 1, .slice none 0 0, .slice none 0 0, .slice none 0 0, .slice none 0 0, .slice none 0 0] 61)) (.slice (some ⟨n, 0, none⟩) 1 1) qL := by
  subst hn
  have hB : Blk (w.alloc (.cells #[.bool true, .bool true, .int .i64 1, .slice none 0 0, .slice none 0 0, .slice none 0 0, .slice none 0 0, .slice none 0 0] 61)) w.heap.size 61 #[.bool true, .bool true, .int .i64 1, .slice none 0 0, .slice none 0 0, .slice none 0 0, .slice none 0 0, .slice none 0 0] := Blk.new _ _ _
  refine ⟨[⟨true, true, 1, (none, 0, 0), (none, 0, 0), (none, 0, 0), (none, 0, 0), (none, 0, 0)⟩], ⟨rfl, fun i => ?_⟩, some ⟨w.heap.size, 0, none⟩, 1, rfl, Nat.le_refl _, by unfold maxLen; omega, fun _ => ⟨_, 0, rfl, hB.lt, fun i hi => ?_⟩⟩
  · match i with
    | 0 => exact ⟨rfl, rfl, rfl, IsPairs.nil _, IsStrs.nil _, IsInts.nil _, IsSums.nil _, IsMsgs.nil' _⟩
    | i + 1 => exact isSl_zero _
  · have hi : i < 1 := hi
    obtain rfl : i = 0 := by omega
    exact ⟨hB.c0 0 _ rfl, hB.c0 1 _ rfl, hB.c0 2 _ rfl, hB.c0 3 _ rfl, hB.c0 4 _ rfl, hB.c0 5 _ rfl, hB.c0 6 _ rfl, hB.c0 7 _ rfl⟩
set_option maxHeartbeats 8000000 in
theorem lsan_w (w0 : World) : Calls Try.prog 11 #[] w0 fun e w' => e = .returned (.bool true) ∧ Below w0.heap.size w0 w' := by
  have mixed := mixedA
  go_enter Try.func11, Try.ntmps11
  go_wp2_with fail
  refine (c_add fx_a1 tiny0 (by decide) (IsSlots.nil _) (node_lit (IsInts.nil _))).mono ?_
  rintro e w1 ⟨A_a, A_c, rfl, hs, hb⟩
  have hz := (Below.refl w0.heap.size w0).trans (hb.mono (Below.size (Below.refl w0.heap.size w0)))
  have HG := Lib.hid hz
  have HSA := Lib.hid hs
  clear hz hb hs
  go_wp2_with fail
  refine (c_add fx_a2 tiny1 (by decide) (HSA.out.below (below_box (.cells #[.slice A_a q1.length A_c, .int .i64 0, .int .i64 0] 44))) (node_lit (IsInts.nil _))).mono ?_
  rintro e w2 ⟨B_a, B_c, rfl, hs, hb⟩
  have hz := (keepP (Below.refl w1.heap.size w1) (.cells #[.slice A_a q1.length A_c, .int .i64 0, .int .i64 0] 44)).trans (hb.mono (Below.size (keepP (Below.refl w1.heap.size w1) (.cells #[.slice A_a q1.length A_c, .int .i64 0, .int .i64 0] 44))))
  have HXA : Hid (Blk w2 w1.heap.size 44 #[.slice A_a q1.length A_c, .int .i64 0, .int .i64 0]) := Lib.hid (Blk.below (by first | exact (Blk.new w1 44 #[.slice A_a q1.length A_c, .int .i64 0, .int .i64 0]) | simpa using (Blk.new w1 44 #[.slice A_a q1.length A_c, .int .i64 0, .int .i64 0])) hb (by first | omega | (simp; done) | (simp; omega)))
  replace HSA := Lib.hid (HSA.out.below hz)
  replace HG := Lib.hid (HG.out.trans (hz.mono HG.out.size))
  have HSB := Lib.hid hs
  clear hz hb hs
  go_wp2_with fail
  refine (c_add fx_a3 tiny2 (by decide) ((HSB.out.below (below_box (.cells #[.slice B_a q2.length B_c, .int .i64 1, .int .i64 0] 44))).below (below_box (.cells #[.int .i64 0, .int .i64 1, .int .i64 1] 3))) (node_lit (isInts_lit [0, 1, 1] (by first | rfl | simp) (by decide) (by simp)))).mono ?_
  rintro e w3 ⟨C_a, C_c, rfl, hs, hb⟩
  have hz := (keepP (keepP (Below.refl w2.heap.size w2) (.cells #[.slice B_a q2.length B_c, .int .i64 1, .int .i64 0] 44)) (.cells #[.int .i64 0, .int .i64 1, .int .i64 1] 3)).trans (hb.mono (Below.size (keepP (keepP (Below.refl w2.heap.size w2) (.cells #[.slice B_a q2.length B_c, .int .i64 1, .int .i64 0] 44)) (.cells #[.int .i64 0, .int .i64 1, .int .i64 1] 3))))
  replace HXA := Lib.hid (HXA.out.below hz HXA.out.lt)
  have HXB : Hid (Blk w3 w2.heap.size 44 #[.slice B_a q2.length B_c, .int .i64 1, .int .i64 0]) := Lib.hid (Blk.below (by first | exact ((Blk.new w2 44 #[.slice B_a q2.length B_c, .int .i64 1, .int .i64 0]).alloc (.cells #[.int .i64 0, .int .i64 1, .int .i64 1] 3)) | simpa using ((Blk.new w2 44 #[.slice B_a q2.length B_c, .int .i64 1, .int .i64 0]).alloc (.cells #[.int .i64 0, .int .i64 1, .int .i64 1] 3))) hb (by first | omega | (simp; done) | (simp; omega)))
  replace HSA := Lib.hid (HSA.out.below hz)
  replace HSB := Lib.hid (HSB.out.below hz)
  replace HG := Lib.hid (HG.out.trans (hz.mono HG.out.size))
  have HSC := Lib.hid hs
  clear hz hb hs
  have xA1 := (HXA.out.alloc (.cells #[.slice C_a q3.length C_c, .int .i64 2, .int .i64 0] 44)).c0 1 _ rfl
  have xB1 := (HXB.out.alloc (.cells #[.slice C_a q3.length C_c, .int .i64 2, .int .i64 0] 44)).c0 1 _ rfl
  go_wp2_with fail
  refine (c_refs fx_r3 tiny3 (HSC.out.below (below_box (.cells #[.slice C_a q3.length C_c, .int .i64 2, .int .i64 0] 44)))).mono ?_
  rintro e w4 ⟨R_a, R_c, rfl, hs, hb⟩
  clear xA1 xB1
  have hz := (keepP (Below.refl w3.heap.size w3) (.cells #[.slice C_a q3.length C_c, .int .i64 2, .int .i64 0] 44)).trans (hb.mono (Below.size (keepP (Below.refl w3.heap.size w3) (.cells #[.slice C_a q3.length C_c, .int .i64 2, .int .i64 0] 44))))
  replace HXA := Lib.hid (HXA.out.below hz HXA.out.lt)
  replace HXB := Lib.hid (HXB.out.below hz HXB.out.lt)
  have HXC : Hid (Blk w4 w3.heap.size 44 #[.slice C_a q3.length C_c, .int .i64 2, .int .i64 0]) := Lib.hid (Blk.below (by first | exact (Blk.new w3 44 #[.slice C_a q3.length C_c, .int .i64 2, .int .i64 0]) | simpa using (Blk.new w3 44 #[.slice C_a q3.length C_c, .int .i64 2, .int .i64 0])) hb (by first | omega | (simp; done) | (simp; omega)))
  replace HSA := Lib.hid (HSA.out.below hz)
  replace HSB := Lib.hid (HSB.out.below hz)
  replace HSC := Lib.hid (HSC.out.below hz)
  replace HG := Lib.hid (HG.out.trans (hz.mono HG.out.size))
  have HIR := Lib.hid hs
  clear hz hb hs
  go_wp2_with fail
  refine (ints_w _ _ [2, 3, 1] _ (HIR.out.below (below_box (.cells #[.int .i64 2, .int .i64 3, .int .i64 1] 3))) (isInts_lit [2, 3, 1] (by first | rfl | simp) (by decide) (by simp))).mono ?_
  rintro e w5 ⟨rfl, hb⟩
  have hz := (keepP (Below.refl w4.heap.size w4) (.cells #[.int .i64 2, .int .i64 3, .int .i64 1] 3)).trans (hb.mono (Below.size (keepP (Below.refl w4.heap.size w4) (.cells #[.int .i64 2, .int .i64 3, .int .i64 1] 3))))
  replace HXC := Lib.hid (HXC.out.below hz HXC.out.lt)
  replace HSC := Lib.hid (HSC.out.below hz)
  replace HG := Lib.hid (HG.out.trans (hz.mono HG.out.size))
  clear hz hb
  have xC0 := HXC.out.c0 0 _ rfl
  go_wp2_with fail
  refine (c_sound fx_s3 tiny3 (by kernel_rfl) (by kernel_rfl) (HSC.out.below (below_box (.cells #[.int .i64 0, .int .i64 1, .int .i64 2] 3))) (isInts_lit [0, 1, 2] (by first | rfl | simp) (by decide) (by simp))).mono ?_
  rintro e w6 ⟨rfl, hb⟩
  clear xC0
  have hz := (keepP (Below.refl w5.heap.size w5) (.cells #[.int .i64 0, .int .i64 1, .int .i64 2] 3)).trans (hb.mono (Below.size (keepP (Below.refl w5.heap.size w5) (.cells #[.int .i64 0, .int .i64 1, .int .i64 2] 3))))
  replace HXC := Lib.hid (HXC.out.below hz HXC.out.lt)
  replace HSC := Lib.hid (HSC.out.below hz)
  replace HG := Lib.hid (HG.out.trans (hz.mono HG.out.size))
  clear hz hb
  have xC0 := HXC.out.c0 0 _ rfl
  go_wp2_with fail
  refine (c_drop fx_d1 tiny3 (by kernel_rfl) HSC.out).mono ?_
  rintro e w7 ⟨D_a, D_c, rfl, hs, hb⟩
  clear xC0
  have hz := (Below.refl w6.heap.size w6).trans (hb.mono (Below.size (Below.refl w6.heap.size w6)))
  replace HXC := Lib.hid (HXC.out.below hz HXC.out.lt)
  replace HSC := Lib.hid (HSC.out.below hz)
  replace HG := Lib.hid (HG.out.trans (hz.mono HG.out.size))
  have HSD := Lib.hid hs
  clear hz hb hs
  go_wp2_with fail
  refine (c_drop fx_d2 tiny4 (by kernel_rfl) (HSD.out.below (below_box (.cells #[.slice D_a q4.length D_c] 29)))).mono ?_
  rintro e w8 ⟨E_a, E_c, rfl, hs, hb⟩
  have hz := (keepP (Below.refl w7.heap.size w7) (.cells #[.slice D_a q4.length D_c] 29)).trans (hb.mono (Below.size (keepP (Below.refl w7.heap.size w7) (.cells #[.slice D_a q4.length D_c] 29))))
  replace HXC := Lib.hid (HXC.out.below hz HXC.out.lt)
  have HXD : Hid (Blk w8 w7.heap.size 29 #[.slice D_a q4.length D_c]) := Lib.hid (Blk.below (by first | exact (Blk.new w7 29 #[.slice D_a q4.length D_c]) | simpa using (Blk.new w7 29 #[.slice D_a q4.length D_c])) hb (by first | omega | (simp; done) | (simp; omega)))
  replace HSC := Lib.hid (HSC.out.below hz)
  replace HSD := Lib.hid (HSD.out.below hz)
  replace HG := Lib.hid (HG.out.trans (hz.mono HG.out.size))
  have HSE := Lib.hid hs
  clear hz hb hs
  go_wp2_with fail
  refine (c_drop fx_d3 tiny5 (by kernel_rfl) (HSE.out.below (below_box (.cells #[.slice E_a q5.length E_c] 29)))).mono ?_
  rintro e w9 ⟨F_a, F_c, rfl, hs, hb⟩
  have hz := (keepP (Below.refl w8.heap.size w8) (.cells #[.slice E_a q5.length E_c] 29)).trans (hb.mono (Below.size (keepP (Below.refl w8.heap.size w8) (.cells #[.slice E_a q5.length E_c] 29))))
  replace HXC := Lib.hid (HXC.out.below hz HXC.out.lt)
  have HXE : Hid (Blk w9 w8.heap.size 29 #[.slice E_a q5.length E_c]) := Lib.hid (Blk.below (by first | exact (Blk.new w8 29 #[.slice E_a q5.length E_c]) | simpa using (Blk.new w8 29 #[.slice E_a q5.length E_c])) hb (by first | omega | (simp; done) | (simp; omega)))
  replace HSC := Lib.hid (HSC.out.below hz)
  replace HSE := Lib.hid (HSE.out.below hz)
  replace HG := Lib.hid (HG.out.trans (hz.mono HG.out.size))
  have HSF := Lib.hid hs
  clear hz hb hs
  have xC0 := (HXC.out.alloc (.cells #[.slice F_a q6.length F_c] 29)).c0 0 _ rfl
  go_wp2_with fail
  refine (c_add fx_a4 tiny3 (by decide) ((HSC.out.below (below_box (.cells #[.slice F_a q6.length F_c] 29))).below (below_box (.cells #[.int .i64 3] 3))) (node_lit (isInts_lit [3] (by first | rfl | simp) (by decide) (by simp)))).mono ?_
  rintro e w10 ⟨G_a, G_c, rfl, hs, hb⟩
  clear xC0
  have hz := (keepP (keepP (Below.refl w9.heap.size w9) (.cells #[.slice F_a q6.length F_c] 29)) (.cells #[.int .i64 3] 3)).trans (hb.mono (Below.size (keepP (keepP (Below.refl w9.heap.size w9) (.cells #[.slice F_a q6.length F_c] 29)) (.cells #[.int .i64 3] 3))))
  replace HXC := Lib.hid (HXC.out.below hz HXC.out.lt)
  replace HXE := Lib.hid (HXE.out.below hz HXE.out.lt)
  have HXF : Hid (Blk w10 w9.heap.size 29 #[.slice F_a q6.length F_c]) := Lib.hid (Blk.below (by first | exact ((Blk.new w9 29 #[.slice F_a q6.length F_c]).alloc (.cells #[.int .i64 3] 3)) | simpa using ((Blk.new w9 29 #[.slice F_a q6.length F_c]).alloc (.cells #[.int .i64 3] 3))) hb (by first | omega | (simp; done) | (simp; omega)))
  replace HSC := Lib.hid (HSC.out.below hz)
  replace HSE := Lib.hid (HSE.out.below hz)
  replace HSF := Lib.hid (HSF.out.below hz)
  replace HG := Lib.hid (HG.out.trans (hz.mono HG.out.size))
  have HSG := Lib.hid hs
  clear hz hb hs
  go_wp2_with fail
  refine (c_get fx_g1 (IsSlots.nil _)).mono ?_
  rintro e w11 ⟨n1, n1n, n1c, n2, n2n, n2c, n3, n3n, n3c, n4, n4n, n4c, n5, n5n, n5c, rfl, hb⟩
  have hz := (keepP (Below.refl w10.heap.size w10) (.cells #[.slice G_a q3.length G_c, .int .i64 0, .int .i64 110] 44)).trans (hb.mono (Below.size (keepP (Below.refl w10.heap.size w10) (.cells #[.slice G_a q3.length G_c, .int .i64 0, .int .i64 110] 44))))
  replace HXC := Lib.hid (HXC.out.below hz HXC.out.lt)
  replace HXE := Lib.hid (HXE.out.below hz HXE.out.lt)
  replace HXF := Lib.hid (HXF.out.below hz HXF.out.lt)
  have HXG : Hid (Blk w11 w10.heap.size 44 #[.slice G_a q3.length G_c, .int .i64 0, .int .i64 110]) := Lib.hid (Blk.below (by first | exact (Blk.new w10 44 #[.slice G_a q3.length G_c, .int .i64 0, .int .i64 110]) | simpa using (Blk.new w10 44 #[.slice G_a q3.length G_c, .int .i64 0, .int .i64 110])) hb (by first | omega | (simp; done) | (simp; omega)))
  replace HSC := Lib.hid (HSC.out.below hz)
  replace HSE := Lib.hid (HSE.out.below hz)
  replace HSF := Lib.hid (HSF.out.below hz)
  replace HSG := Lib.hid (HSG.out.below hz)
  replace HG := Lib.hid (HG.out.trans (hz.mono HG.out.size))
  clear hz hb
  go_wp2_with fail
  refine (c_get fx_g2 (slots_lit (by first | rfl | simp))).mono ?_
  rintro e w12 ⟨m1, m1n, m1c, m2, m2n, m2c, m3, m3n, m3c, m4, m4n, m4c, m5, m5n, m5c, rfl, hb⟩
  have hz := (keepP (keepP (Below.refl w11.heap.size w11) (.cells #[.slice n1 n1n n1c, .slice n2 n2n n2c, .slice n3 n3n n3c, .slice n4 n4n n4c, .slice n5 n5n n5c] 39)) (.cells #[.bool true, .bool true, .int .i64 1, .slice none 0 0, .slice none 0 0, .slice none 0 0, .slice none 0 0, .slice none 0 0] 61)).trans (hb.mono (Below.size (keepP (keepP (Below.refl w11.heap.size w11) (.cells #[.slice n1 n1n n1c, .slice n2 n2n n2c, .slice n3 n3n n3c, .slice n4 n4n n4c, .slice n5 n5n n5c] 39)) (.cells #[.bool true, .bool true, .int .i64 1, .slice none 0 0, .slice none 0 0, .slice none 0 0, .slice none 0 0, .slice none 0 0] 61))))
  replace HXC := Lib.hid (HXC.out.below hz HXC.out.lt)
  replace HXE := Lib.hid (HXE.out.below hz HXE.out.lt)
  replace HXF := Lib.hid (HXF.out.below hz HXF.out.lt)
  replace HXG := Lib.hid (HXG.out.below hz HXG.out.lt)
  have HXN : Hid (Blk w12 w11.heap.size 39 #[.slice n1 n1n n1c, .slice n2 n2n n2c, .slice n3 n3n n3c, .slice n4 n4n n4c, .slice n5 n5n n5c]) := Lib.hid (Blk.below (by first | exact ((Blk.new w11 39 #[.slice n1 n1n n1c, .slice n2 n2n n2c, .slice n3 n3n n3c, .slice n4 n4n n4c, .slice n5 n5n n5c]).alloc (.cells #[.bool true, .bool true, .int .i64 1, .slice none 0 0, .slice none 0 0, .slice none 0 0, .slice none 0 0, .slice none 0 0] 61)) | simpa using ((Blk.new w11 39 #[.slice n1 n1n n1c, .slice n2 n2n n2c, .slice n3 n3n n3c, .slice n4 n4n n4c, .slice n5 n5n n5c]).alloc (.cells #[.bool true, .bool true, .int .i64 1, .slice none 0 0, .slice none 0 0, .slice none 0 0, .slice none 0 0, .slice none 0 0] 61))) hb (by first | omega | (simp; done) | (simp; omega)))
  replace HSC := Lib.hid (HSC.out.below hz)
  replace HSE := Lib.hid (HSE.out.below hz)
  replace HSF := Lib.hid (HSF.out.below hz)
  replace HSG := Lib.hid (HSG.out.below hz)
  replace HG := Lib.hid (HG.out.trans (hz.mono HG.out.size))
  clear hz hb
  have xE0 := (HXE.out.alloc (.cells #[.slice m1 m1n m1c, .slice m2 m2n m2c, .slice m3 m3n m3c, .slice m4 m4n m4c, .slice m5 m5n m5c] 39)).c0 0 _ rfl
  go_wp2_with fail
  refine (c_refs fx_r5 tiny5 (HSE.out.below (below_box (.cells #[.slice m1 m1n m1c, .slice m2 m2n m2c, .slice m3 m3n m3c, .slice m4 m4n m4c, .slice m5 m5n m5c] 39)))).mono ?_
  rintro e w13 ⟨R_a, R_c, rfl, hs, hb⟩
  clear xE0
  have hz := (keepP (Below.refl w12.heap.size w12) (.cells #[.slice m1 m1n m1c, .slice m2 m2n m2c, .slice m3 m3n m3c, .slice m4 m4n m4c, .slice m5 m5n m5c] 39)).trans (hb.mono (Below.size (keepP (Below.refl w12.heap.size w12) (.cells #[.slice m1 m1n m1c, .slice m2 m2n m2c, .slice m3 m3n m3c, .slice m4 m4n m4c, .slice m5 m5n m5c] 39))))
  replace HXC := Lib.hid (HXC.out.below hz HXC.out.lt)
  replace HXE := Lib.hid (HXE.out.below hz HXE.out.lt)
  replace HXF := Lib.hid (HXF.out.below hz HXF.out.lt)
  replace HXG := Lib.hid (HXG.out.below hz HXG.out.lt)
  have HXM : Hid (Blk w13 w12.heap.size 39 #[.slice m1 m1n m1c, .slice m2 m2n m2c, .slice m3 m3n m3c, .slice m4 m4n m4c, .slice m5 m5n m5c]) := Lib.hid (Blk.below (by first | exact (Blk.new w12 39 #[.slice m1 m1n m1c, .slice m2 m2n m2c, .slice m3 m3n m3c, .slice m4 m4n m4c, .slice m5 m5n m5c]) | simpa using (Blk.new w12 39 #[.slice m1 m1n m1c, .slice m2 m2n m2c, .slice m3 m3n m3c, .slice m4 m4n m4c, .slice m5 m5n m5c])) hb (by first | omega | (simp; done) | (simp; omega)))
  replace HSC := Lib.hid (HSC.out.below hz)
  replace HSE := Lib.hid (HSE.out.below hz)
  replace HSF := Lib.hid (HSF.out.below hz)
  replace HSG := Lib.hid (HSG.out.below hz)
  replace HG := Lib.hid (HG.out.trans (hz.mono HG.out.size))
  have HIR := Lib.hid hs
  clear hz hb hs
  go_wp2_with fail
  refine (ints_w _ _ [1, 2, 1] _ (HIR.out.below (below_box (.cells #[.int .i64 1, .int .i64 2, .int .i64 1] 3))) (isInts_lit [1, 2, 1] (by first | rfl | simp) (by decide) (by simp))).mono ?_
  rintro e w14 ⟨rfl, hb⟩
  have hz := (keepP (Below.refl w13.heap.size w13) (.cells #[.int .i64 1, .int .i64 2, .int .i64 1] 3)).trans (hb.mono (Below.size (keepP (Below.refl w13.heap.size w13) (.cells #[.int .i64 1, .int .i64 2, .int .i64 1] 3))))
  replace HXC := Lib.hid (HXC.out.below hz HXC.out.lt)
  replace HXE := Lib.hid (HXE.out.below hz HXE.out.lt)
  replace HXF := Lib.hid (HXF.out.below hz HXF.out.lt)
  replace HXG := Lib.hid (HXG.out.below hz HXG.out.lt)
  replace HXM := Lib.hid (HXM.out.below hz HXM.out.lt)
  replace HSC := Lib.hid (HSC.out.below hz)
  replace HSE := Lib.hid (HSE.out.below hz)
  replace HSF := Lib.hid (HSF.out.below hz)
  replace HSG := Lib.hid (HSG.out.below hz)
  replace HG := Lib.hid (HG.out.trans (hz.mono HG.out.size))
  clear hz hb
  have xE0 := HXE.out.c0 0 _ rfl
  go_wp2_with fail
  refine (c_live fx_l5 HSE.out).mono ?_
  rintro e w15 ⟨rfl, hb⟩
  clear xE0
  have hz := (Below.refl w14.heap.size w14).trans (hb.mono (Below.size (Below.refl w14.heap.size w14)))
  replace HXC := Lib.hid (HXC.out.below hz HXC.out.lt)
  replace HXE := Lib.hid (HXE.out.below hz HXE.out.lt)
  replace HXF := Lib.hid (HXF.out.below hz HXF.out.lt)
  replace HXG := Lib.hid (HXG.out.below hz HXG.out.lt)
  replace HXM := Lib.hid (HXM.out.below hz HXM.out.lt)
  replace HSC := Lib.hid (HSC.out.below hz)
  replace HSE := Lib.hid (HSE.out.below hz)
  replace HSF := Lib.hid (HSF.out.below hz)
  replace HSG := Lib.hid (HSG.out.below hz)
  replace HG := Lib.hid (HG.out.trans (hz.mono HG.out.size))
  clear hz hb
  have xF0 := HXF.out.c0 0 _ rfl
  go_wp2_with fail
  refine (c_live fx_l6 HSF.out).mono ?_
  rintro e w16 ⟨rfl, hb⟩
  clear xF0
  have hz := (Below.refl w15.heap.size w15).trans (hb.mono (Below.size (Below.refl w15.heap.size w15)))
  replace HXC := Lib.hid (HXC.out.below hz HXC.out.lt)
  replace HXE := Lib.hid (HXE.out.below hz HXE.out.lt)
  replace HXF := Lib.hid (HXF.out.below hz HXF.out.lt)
  replace HXG := Lib.hid (HXG.out.below hz HXG.out.lt)
  replace HXM := Lib.hid (HXM.out.below hz HXM.out.lt)
  replace HSC := Lib.hid (HSC.out.below hz)
  replace HSE := Lib.hid (HSE.out.below hz)
  replace HSF := Lib.hid (HSF.out.below hz)
  replace HSG := Lib.hid (HSG.out.below hz)
  replace HG := Lib.hid (HG.out.trans (hz.mono HG.out.size))
  clear hz hb
  have xG0 := HXG.out.c0 0 _ rfl
  have xG2 := HXG.out.c0 2 _ rfl
  have xC0 := HXC.out.c0 0 _ rfl
  go_wp2_with fail
  refine (same_w _ _ q3 _ HSG.out HSC.out tiny3.bare).mono ?_
  rintro e w17 ⟨rfl, hb⟩
  clear xG0 xG2 xC0
  have hz := (Below.refl w16.heap.size w16).trans (hb.mono (Below.size (Below.refl w16.heap.size w16)))
  replace HXC := Lib.hid (HXC.out.below hz HXC.out.lt)
  replace HXE := Lib.hid (HXE.out.below hz HXE.out.lt)
  replace HXF := Lib.hid (HXF.out.below hz HXF.out.lt)
  replace HXG := Lib.hid (HXG.out.below hz HXG.out.lt)
  replace HXM := Lib.hid (HXM.out.below hz HXM.out.lt)
  replace HSC := Lib.hid (HSC.out.below hz)
  replace HSE := Lib.hid (HSE.out.below hz)
  replace HSF := Lib.hid (HSF.out.below hz)
  replace HSG := Lib.hid (HSG.out.below hz)
  replace HG := Lib.hid (HG.out.trans (hz.mono HG.out.size))
  clear hz hb
  have xE0 := HXE.out.c0 0 _ rfl
  go_wp2_with fail
  refine (c_sound fx_s5 tiny5 (by kernel_rfl) (by kernel_rfl) (HSE.out.below (below_box (.cells #[.int .i64 2] 3))) (isInts_lit [2] (by first | rfl | simp) (by decide) (by simp))).mono ?_
  rintro e w18 ⟨rfl, hb⟩
  clear xE0
  have hz := (keepP (Below.refl w17.heap.size w17) (.cells #[.int .i64 2] 3)).trans (hb.mono (Below.size (keepP (Below.refl w17.heap.size w17) (.cells #[.int .i64 2] 3))))
  replace HXC := Lib.hid (HXC.out.below hz HXC.out.lt)
  replace HXE := Lib.hid (HXE.out.below hz HXE.out.lt)
  replace HXF := Lib.hid (HXF.out.below hz HXF.out.lt)
  replace HXG := Lib.hid (HXG.out.below hz HXG.out.lt)
  replace HXM := Lib.hid (HXM.out.below hz HXM.out.lt)
  replace HSC := Lib.hid (HSC.out.below hz)
  replace HSE := Lib.hid (HSE.out.below hz)
  replace HSF := Lib.hid (HSF.out.below hz)
  replace HSG := Lib.hid (HSG.out.below hz)
  replace HG := Lib.hid (HG.out.trans (hz.mono HG.out.size))
  clear hz hb
  have xE0 := HXE.out.c0 0 _ rfl
  go_wp2_with fail
  refine (c_sound fx_s5n tiny5 (by kernel_rfl) (by kernel_rfl) (HSE.out.below (below_box (.cells #[.int .i64 1, .int .i64 2] 3))) (isInts_lit [1, 2] (by first | rfl | simp) (by decide) (by simp))).mono ?_
  rintro e w19 ⟨rfl, hb⟩
  clear xE0
  have hz := (keepP (Below.refl w18.heap.size w18) (.cells #[.int .i64 1, .int .i64 2] 3)).trans (hb.mono (Below.size (keepP (Below.refl w18.heap.size w18) (.cells #[.int .i64 1, .int .i64 2] 3))))
  replace HXC := Lib.hid (HXC.out.below hz HXC.out.lt)
  replace HXE := Lib.hid (HXE.out.below hz HXE.out.lt)
  replace HXF := Lib.hid (HXF.out.below hz HXF.out.lt)
  replace HXG := Lib.hid (HXG.out.below hz HXG.out.lt)
  replace HXM := Lib.hid (HXM.out.below hz HXM.out.lt)
  replace HSC := Lib.hid (HSC.out.below hz)
  replace HSE := Lib.hid (HSE.out.below hz)
  replace HSF := Lib.hid (HSF.out.below hz)
  replace HSG := Lib.hid (HSG.out.below hz)
  replace HG := Lib.hid (HG.out.trans (hz.mono HG.out.size))
  clear hz hb
  have xE0 := HXE.out.c0 0 _ rfl
  go_wp2_with fail
  refine (c_reach fx_re tiny5 (HSE.out.below (below_box (.cells #[.int .i64 2] 3))) (isInts_lit [2] (by first | rfl | simp) (by decide) (by simp))).mono ?_
  rintro e w20 ⟨R_a, R_c, rfl, hs, hb⟩
  clear xE0
  have hz := (keepP (Below.refl w19.heap.size w19) (.cells #[.int .i64 2] 3)).trans (hb.mono (Below.size (keepP (Below.refl w19.heap.size w19) (.cells #[.int .i64 2] 3))))
  replace HXC := Lib.hid (HXC.out.below hz HXC.out.lt)
  replace HXE := Lib.hid (HXE.out.below hz HXE.out.lt)
  replace HXF := Lib.hid (HXF.out.below hz HXF.out.lt)
  replace HXG := Lib.hid (HXG.out.below hz HXG.out.lt)
  replace HXM := Lib.hid (HXM.out.below hz HXM.out.lt)
  replace HSC := Lib.hid (HSC.out.below hz)
  replace HSE := Lib.hid (HSE.out.below hz)
  replace HSF := Lib.hid (HSF.out.below hz)
  replace HSG := Lib.hid (HSG.out.below hz)
  replace HG := Lib.hid (HG.out.trans (hz.mono HG.out.size))
  have HIR := Lib.hid hs
  clear hz hb hs
  go_wp2_with fail
  refine (ints_w _ _ [0, 1, 2] _ (HIR.out.below (below_box (.cells #[.int .i64 0, .int .i64 1, .int .i64 2] 3))) (isInts_lit [0, 1, 2] (by first | rfl | simp) (by decide) (by simp))).mono ?_
  rintro e w21 ⟨rfl, hb⟩
  have hz := (keepP (Below.refl w20.heap.size w20) (.cells #[.int .i64 0, .int .i64 1, .int .i64 2] 3)).trans (hb.mono (Below.size (keepP (Below.refl w20.heap.size w20) (.cells #[.int .i64 0, .int .i64 1, .int .i64 2] 3))))
  replace HXC := Lib.hid (HXC.out.below hz HXC.out.lt)
  replace HXE := Lib.hid (HXE.out.below hz HXE.out.lt)
  replace HXF := Lib.hid (HXF.out.below hz HXF.out.lt)
  replace HXG := Lib.hid (HXG.out.below hz HXG.out.lt)
  replace HXM := Lib.hid (HXM.out.below hz HXM.out.lt)
  replace HSC := Lib.hid (HSC.out.below hz)
  replace HSE := Lib.hid (HSE.out.below hz)
  replace HSF := Lib.hid (HSF.out.below hz)
  replace HSG := Lib.hid (HSG.out.below hz)
  replace HIR := Lib.hid (HIR.out.below hz)
  replace HG := Lib.hid (HG.out.trans (hz.mono HG.out.size))
  clear hz hb
  go_wp2
  go_ret
  exact ⟨rfl, HG.out⟩

end Go.Proofs.Ytlgangcldlphnaa
