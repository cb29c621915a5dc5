/-
  Walk of the law NodeBytes.
-/
import Derived.Test.YtmbfghbhajmpiaaGreatYDW
import Derived.Test.YtmbfghbhajmpiaaGreatYJB
import Derived.Test.YtmbfghbhajmpiaaGreatYDV
namespace Go.Proofs.YtmbfghbhajmpiaaGreat
open Go.RowKit Go.Deep Go.Sort
set_option linter.unusedVariables false

theorem node_msg {n : Nd} {s : Sp} (h : validN n s = true) {m : Ms} (hm : m ∈ n.buf) : validM m = true := by
  by_cases hk : n.kids = []
  · obtain ⟨_, _, h3, _⟩ := valid_leaf h hk
    rw [h3] at hm; cases hm
  · obtain ⟨_, _, _, _, _, _, h7⟩ := valid_inner h hk
    have := h7 m hm
    unfold bufB at this
    rw [Bool.and_eq_true] at this
    exact this.1
set_option maxRecDepth 100000 in
set_option maxHeartbeats 8000000 in
theorem nodeBytes_walk (w : World) (v0 : Value) (x : Rq × Rq) (h0 : IsRq2 w v0 x) (v1 : Value) (y : Nat × Nat) (h1 : IsU16x2 w v1 y) (v2 : Value) (raw : Bs) (h2 : IsBytes w v2 raw) :
    Calls Tryz.prog 4 #[v0, v1, v2] w fun e w' => e = .returned (.bool true) ∧ Below w.heap.size w w' := by
  have mixed := mixedA
  obtain ⟨y0, y1⟩ := y
  obtain ⟨rfl, hy0, hy1⟩ := h1
  show Calls _ _ #[v0, .agg #[.int .u16 y0, .int .u16 y1], v2] _ _
  change y0 < 65536 at hy0
  change y1 < 65536 at hy1
  have HM := Lib.hid h2
  obtain ⟨pm, cm, rfl, hml, hmm, -⟩ := h2
  unfold maxLen at hmm
  obtain ⟨a0, a1, a2, a3, a4, b0, b1, b2, b3, b4, rfl, hr1, hr2⟩ := h0
  obtain ⟨x1, x2⟩ := x
  dsimp only at hr1 hr2
  obtain ⟨W1, hW1⟩ : ∃ W1, W1 = (w.alloc (.cells #[a0, a1, a2, a3, a4, b0, b1, b2, b3, b4] 55)).alloc (.cells #[.int .u16 (y0 : Int), .int .u16 (y1 : Int)] 57) := ⟨_, rfl⟩
  have HX : Hid (Blk W1 w.heap.size 55 #[a0, a1, a2, a3, a4, b0, b1, b2, b3, b4]) := Lib.hid (by rw [hW1]; exact (Blk.new _ _ _).alloc _)
  have HY : Hid (Blk W1 (w.heap.size + 1) 57 #[.int .u16 (y0 : Int), .int .u16 (y1 : Int)]) := Lib.hid (by rw [hW1]; exact Blk.new' _ _ _ (by simp))
  have HG : Hid (Below w.heap.size w W1) := Lib.hid (by rw [hW1]; exact (((Grown.refl w).alloc _).alloc _).below (Nat.le_refl _))
  have HW1 := Lib.hid hW1
  clear hW1
  by_cases h100 : raw.length ≤ 100
  · have h100z : (raw.length : Int) ≤ 100 := by omega
    go_enter Tryz.func4, Tryz.ntmps4
    go_wp2_with fail
    rw [← HW1.out]
    refine (nsan_w _).mono ?_
    rintro e1 w1 ⟨rfl, hb1⟩
    have H1 := Lib.hid hb1
    clear hb1
    have hsm1 := hr1.small
    have hsm2 := hr2.small
    have HA := fun wx (hb : Below w1.heap.size w1 wx) => nmade_w (.agg #[a0, a1, a2, a3, a4]) x1 wx (hr1.below ((HG.out.trans (H1.out.mono HG.out.size)).trans (hb.mono (HG.out.trans (H1.out.mono HG.out.size)).size)))
    have HB := fun wx (hb : Below w1.heap.size w1 wx) => nmade_w (.agg #[b0, b1, b2, b3, b4]) x2 wx (hr2.below ((HG.out.trans (H1.out.mono HG.out.size)).trans (hb.mono (HG.out.trans (H1.out.mono HG.out.size)).size)))
    have HXB := fun wx (hb : Below w1.heap.size w1 wx) => (HX.out.below H1.out HX.out.lt).below hb (HX.out.below H1.out HX.out.lt).lt
    go_wp2_with fail
    refine regB4_w w1 w.heap.size a0 a1 a2 a3 a4 b0 b1 b2 b3 b4 (madeQ x1) (madeQ x2) HXB HA HB _ _ _ _ _ _ _ _ _ _ _ _ _ _ _ _ _ _ _ _ _ _ _ _ _ _ _ _ _ _ _ _ _ _ _ _ _ _ _ _ _ _ _ _ _ _ _ _ _ _ _ _ _ _ _ _ _ _ _ _ _ _ _ _ _ _ _ _ _ _ _ _ _ _ _ _ _ _ _ _ _ _ _ _ _ _ _ _ _ _ _ _ _ _ _ _ _ _ _ _ _ _ _ _ _ _ _ _ _ _ _ _ _ _ _ _ _ _ _ _ _ ?_
    intro t24 t25 t26 t27 t28 t29 b8 b9 k0 k1 k2 k3 k4 k5 k6 k7 k8' k9' k10 k11 k12 k13 k14 m0 m1 m2 m3 m4 m5 m6 m7 m8 m9 m10 m11 m12 m13 m14 w4 hS h8 hn h9 hm
    have HS4 := Lib.hid hS
    have H8 := Lib.hid h8
    have H9 := Lib.hid h9
    have HN := Lib.hid hn
    have HMm := Lib.hid hm
    clear hS h8 h9 hn hm HA HB HXB hr1 hr2 HX
    have hv1 := madeQ_valid x1 hsm1
    have hv2 := madeQ_valid x2 hsm2
    have hl1 := bytesQ_short x1 hsm1
    have hB1 := bytesNd_pos hv1 (madeQ_piv x1)
    have HBn := Lib.hid (fun wx (hb : Below w4.heap.size w4 wx) => q_bytes (.agg #[.slice k0 k1 k2, .slice k3 k4 k5, .slice k6 k7 k8', .slice k9' k10 k11, .slice k12 k13 k14]) (madeQ x1) (bytesNd (madeQ x1)) wx (HN.out.below hb) (madeQ_smallN x1) rfl)
    have HBm := Lib.hid (fun wx (hb : Below w4.heap.size w4 wx) => q_bytes (.agg #[.slice m0 m1 m2, .slice m3 m4 m5, .slice m6 m7 m8, .slice m9 m10 m11, .slice m12 m13 m14]) (madeQ x2) (bytesNd (madeQ x2)) wx (HMm.out.below hb) (madeQ_smallN x2) rfl)
    have HP0 := Lib.hid (parseN_bytes _ hv1 (madeQ_piv x1) (madeQ_few x1))
    have HIJ := Lib.hid (bytesNd_inj hv1 (madeQ_piv x1) (madeQ_few x1) hv2 (madeQ_piv x2) (madeQ_few x2))
    have HL0 : Hid (Below w4.heap.size w4 w4) := Lib.hid (Below.refl _ _)
    clear hv1 hv2 hsm1 hsm2
    generalize bytesNd (madeQ x1) = B at *
    generalize bytesNd (madeQ x2) = C at *
    generalize madeQ x1 = n at *
    generalize madeQ x2 = m at *
    have hBp : 0 < B.length := List.length_pos_iff.2 hB1
    have k8 := fun wx (hb : Below w4.heap.size w4 wx) => H8.out.below hb H8.out.lt
    have k9 := fun wx (hb : Below w4.heap.size w4 wx) => H9.out.below hb H9.out.lt
    have kn0 : ∀ wx, Below w4.heap.size w4 wx → wx.cell? ⟨b8, 0, none⟩ = some (.slice k0 k1 k2) := fun wx hb => (k8 wx hb).c0 0 _ rfl
    have kn1 : ∀ wx, Below w4.heap.size w4 wx → wx.cell? ⟨b8, 1, none⟩ = some (.slice k3 k4 k5) := fun wx hb => (k8 wx hb).c0 1 _ rfl
    have kn2 : ∀ wx, Below w4.heap.size w4 wx → wx.cell? ⟨b8, 2, none⟩ = some (.slice k6 k7 k8') := fun wx hb => (k8 wx hb).c0 2 _ rfl
    have kn3 : ∀ wx, Below w4.heap.size w4 wx → wx.cell? ⟨b8, 3, none⟩ = some (.slice k9' k10 k11) := fun wx hb => (k8 wx hb).c0 3 _ rfl
    have kn4 : ∀ wx, Below w4.heap.size w4 wx → wx.cell? ⟨b8, 4, none⟩ = some (.slice k12 k13 k14) := fun wx hb => (k8 wx hb).c0 4 _ rfl
    have km0 : ∀ wx, Below w4.heap.size w4 wx → wx.cell? ⟨b9, 0, none⟩ = some (.slice m0 m1 m2) := fun wx hb => (k9 wx hb).c0 0 _ rfl
    have km1 : ∀ wx, Below w4.heap.size w4 wx → wx.cell? ⟨b9, 1, none⟩ = some (.slice m3 m4 m5) := fun wx hb => (k9 wx hb).c0 1 _ rfl
    have km2 : ∀ wx, Below w4.heap.size w4 wx → wx.cell? ⟨b9, 2, none⟩ = some (.slice m6 m7 m8) := fun wx hb => (k9 wx hb).c0 2 _ rfl
    have km3 : ∀ wx, Below w4.heap.size w4 wx → wx.cell? ⟨b9, 3, none⟩ = some (.slice m9 m10 m11) := fun wx hb => (k9 wx hb).c0 3 _ rfl
    have km4 : ∀ wx, Below w4.heap.size w4 wx → wx.cell? ⟨b9, 4, none⟩ = some (.slice m12 m13 m14) := fun wx hb => (k9 wx hb).c0 4 _ rfl
    go_wp2_with fail
    go_cut [10, 11] (fun s10 s11 wx => ∃ p c p' c', s10 = .slice p B.length c ∧ s11 = .slice p' C.length c' ∧ Hid (IsBytes wx (.slice p B.length c) B) ∧ Hid (IsBytes wx (.slice p' C.length c') C) ∧ Hid (Below w4.heap.size w4 wx))
    case first =>
      go_region_held3 (fun wx => Below w4.heap.size w4 wx)
        (repeat (first | with_reducible assumption | with_reducible exact HL0.out | with_reducible refine Below.drew ?_))
        (first
          | (go_at_call_of 19 (Value.agg #[.slice k0 k1 k2, .slice k3 k4 k5, .slice k6 k7 k8', .slice k9' k10 k11, .slice k12 k13 k14]); (refine (HBn.out _ (by repeat (first | with_reducible assumption | with_reducible exact HL0.out | with_reducible refine Below.drew ?_))).mono ?_); rintro e w5 ⟨p5, c5, rfl, hb5, hS5⟩; have hS6 : Below w4.heap.size w4 w5 := Below.trans (by repeat (first | with_reducible assumption | with_reducible exact HL0.out | with_reducible refine Below.drew ?_)) (hS5.mono (Below.size (by repeat (first | with_reducible assumption | with_reducible exact HL0.out | with_reducible refine Below.drew ?_)))))
          | (go_at_call 19; (refine (HBm.out _ (by repeat (first | with_reducible assumption | with_reducible exact HL0.out | with_reducible refine Below.drew ?_))).mono ?_); rintro e w7 ⟨p7, c7, rfl, hb7, hS7⟩; have hS8 : Below w4.heap.size w4 w7 := Below.trans (by repeat (first | with_reducible assumption | with_reducible exact HL0.out | with_reducible refine Below.drew ?_)) (hS7.mono (Below.size (by repeat (first | with_reducible assumption | with_reducible exact HL0.out | with_reducible refine Below.drew ?_)))); have hb9 := hb5.below hS7)
          | fail "no arm")
      all_goals (go_wp2_with fail; go_meet)
      all_goals exact ⟨p5, c5, p7, c7, rfl, rfl, Lib.hid hb9, Lib.hid hb7, Lib.hid hS8⟩
    case rest =>
      obtain ⟨p5, c5, p7, c7, rfl, rfl, HBB, HCC, HS5⟩ := hcut
      go_wp2_with fail
      refine (nparse_w (.slice p5 B.length c5) B _ HBB.out).mono ?_
      rintro e w6 ⟨v6, rfl, hn6, hb6⟩
      rw [HP0.out] at hn6 ⊢
      have HN6 := Lib.hid hn6.is
      obtain ⟨z0, z1, z2, z3, z4, z5, z6, z7, z8, z9, z10, z11, z12, z13, z14, rfl⟩ := node_slices hn6.is
      have HS6 := Lib.hid (HS5.out.trans (hb6.mono HS5.out.size))
      have HBB6 := Lib.hid (HBB.out.below hb6)
      have HCC6 := Lib.hid (HCC.out.below hb6)
      clear hn6 hb6 HS5 HBB HCC HP0 HBn HBm HL0 k8 k9 kn0 kn1 kn2 kn3 kn4 km0 km1 km2 km3 km4
      go_wp2_with fail
      obtain ⟨W6, hW6⟩ : ∃ W6, W6 = w6.alloc (.cells #[.slice z0 z1 z2, .slice z3 z4 z5, .slice z6 z7 z8, .slice z9 z10 z11, .slice z12 z13 z14] 34) := ⟨_, rfl⟩
      have HZ : Hid (Blk W6 w6.heap.size 34 #[.slice z0 z1 z2, .slice z3 z4 z5, .slice z6 z7 z8, .slice z9 z10 z11, .slice z12 z13 z14]) := Lib.hid (by rw [hW6]; exact Blk.new _ _ _)
      have HS7 : Hid (Below w4.heap.size w4 W6) := Lib.hid (by rw [hW6]; exact keepAQ HS6.out _)
      have hb66 : Below w6.heap.size w6 W6 := by rw [hW6]; exact below_box _
      have HNZ := Lib.hid (HN6.out.below hb66)
      have HNK := Lib.hid (HN.out.below HS7.out)
      have HNM := Lib.hid (HMm.out.below HS7.out)
      have HBB7 := Lib.hid (HBB6.out.below hb66)
      have HCC7 := Lib.hid (HCC6.out.below hb66)
      rw [← hW6]
      clear hb66 hW6 HN6 HS6 HBB6 HCC6 HN HMm
      have HL7 : Hid (Below W6.heap.size W6 W6) := Lib.hid (Below.refl _ _)
      have HK7 := Lib.hid (H8.out.below HS7.out H8.out.lt)
      have HM7 := Lib.hid (H9.out.below HS7.out H9.out.lt)
      have rn0 : ∀ wx, Below W6.heap.size W6 wx → wx.cell? ⟨b8, 0, none⟩ = some (.slice k0 k1 k2) := fun wx hb => (HK7.out.below hb HK7.out.lt).c0 0 _ rfl
      have rn1 : ∀ wx, Below W6.heap.size W6 wx → wx.cell? ⟨b8, 1, none⟩ = some (.slice k3 k4 k5) := fun wx hb => (HK7.out.below hb HK7.out.lt).c0 1 _ rfl
      have rn2 : ∀ wx, Below W6.heap.size W6 wx → wx.cell? ⟨b8, 2, none⟩ = some (.slice k6 k7 k8') := fun wx hb => (HK7.out.below hb HK7.out.lt).c0 2 _ rfl
      have rn3 : ∀ wx, Below W6.heap.size W6 wx → wx.cell? ⟨b8, 3, none⟩ = some (.slice k9' k10 k11) := fun wx hb => (HK7.out.below hb HK7.out.lt).c0 3 _ rfl
      have rn4 : ∀ wx, Below W6.heap.size W6 wx → wx.cell? ⟨b8, 4, none⟩ = some (.slice k12 k13 k14) := fun wx hb => (HK7.out.below hb HK7.out.lt).c0 4 _ rfl
      have rm0 : ∀ wx, Below W6.heap.size W6 wx → wx.cell? ⟨b9, 0, none⟩ = some (.slice m0 m1 m2) := fun wx hb => (HM7.out.below hb HM7.out.lt).c0 0 _ rfl
      have rm1 : ∀ wx, Below W6.heap.size W6 wx → wx.cell? ⟨b9, 1, none⟩ = some (.slice m3 m4 m5) := fun wx hb => (HM7.out.below hb HM7.out.lt).c0 1 _ rfl
      have rm2 : ∀ wx, Below W6.heap.size W6 wx → wx.cell? ⟨b9, 2, none⟩ = some (.slice m6 m7 m8) := fun wx hb => (HM7.out.below hb HM7.out.lt).c0 2 _ rfl
      have rm3 : ∀ wx, Below W6.heap.size W6 wx → wx.cell? ⟨b9, 3, none⟩ = some (.slice m9 m10 m11) := fun wx hb => (HM7.out.below hb HM7.out.lt).c0 3 _ rfl
      have rm4 : ∀ wx, Below W6.heap.size W6 wx → wx.cell? ⟨b9, 4, none⟩ = some (.slice m12 m13 m14) := fun wx hb => (HM7.out.below hb HM7.out.lt).c0 4 _ rfl
      have rz0 : ∀ wx, Below W6.heap.size W6 wx → wx.cell? ⟨w6.heap.size, 0, none⟩ = some (.slice z0 z1 z2) := fun wx hb => (HZ.out.below hb HZ.out.lt).c0 0 _ rfl
      have rz1 : ∀ wx, Below W6.heap.size W6 wx → wx.cell? ⟨w6.heap.size, 1, none⟩ = some (.slice z3 z4 z5) := fun wx hb => (HZ.out.below hb HZ.out.lt).c0 1 _ rfl
      have rz2 : ∀ wx, Below W6.heap.size W6 wx → wx.cell? ⟨w6.heap.size, 2, none⟩ = some (.slice z6 z7 z8) := fun wx hb => (HZ.out.below hb HZ.out.lt).c0 2 _ rfl
      have rz3 : ∀ wx, Below W6.heap.size W6 wx → wx.cell? ⟨w6.heap.size, 3, none⟩ = some (.slice z9 z10 z11) := fun wx hb => (HZ.out.below hb HZ.out.lt).c0 3 _ rfl
      have rz4 : ∀ wx, Below W6.heap.size W6 wx → wx.cell? ⟨w6.heap.size, 4, none⟩ = some (.slice z12 z13 z14) := fun wx hb => (HZ.out.below hb HZ.out.lt).c0 4 _ rfl
      obtain ⟨q, hq1, hq2⟩ : ∃ q, decide (B = C) = q ∧ sameN n m = q := ⟨_, rfl, by
        rw [Bool.eq_iff_iff, sameN_iff, decide_eq_true_eq]
        exact HIJ.out.symm⟩
      have HC1 := Lib.hid (fun wx (hb : Below W6.heap.size W6 wx) => rsame10_w (.agg #[.slice z0 z1 z2, .slice z3 z4 z5, .slice z6 z7 z8, .slice z9 z10 z11, .slice z12 z13 z14]) (.agg #[.slice k0 k1 k2, .slice k3 k4 k5, .slice k6 k7 k8', .slice k9' k10 k11, .slice k12 k13 k14]) n n wx (HNZ.out.below hb) (HNK.out.below hb))
      rw [show sameN n n = true from (sameN_iff n n).2 rfl] at HC1
      have HC2 := Lib.hid (fun wx (hb : Below W6.heap.size W6 wx) => samebytes_w (.slice p5 B.length c5) (.slice p7 C.length c7) B C wx (HBB7.out.below hb) (HCC7.out.below hb))
      rw [hq1] at HC2
      have HC3 := Lib.hid (fun wx (hb : Below W6.heap.size W6 wx) => rsame10_w (.agg #[.slice k0 k1 k2, .slice k3 k4 k5, .slice k6 k7 k8', .slice k9' k10 k11, .slice k12 k13 k14]) (.agg #[.slice m0 m1 m2, .slice m3 m4 m5, .slice m6 m7 m8, .slice m9 m10 m11, .slice m12 m13 m14]) n m wx (HNK.out.below hb) (HNM.out.below hb))
      rw [hq2] at HC3
      have hBd : (((B.length : Nat) : Int) == 0) = false := by rw [beq_eq_false_iff_ne]; omega
      have hBz : 0 < ((B.length : Nat) : Int) := by omega
      clear hq1 hq2 HIJ
      go_cut [60] (fun s wx => s = .bool false ∧ Hid (Below W6.heap.size W6 wx))
      case first =>
        cases q
        all_goals
          go_region_held3 (fun wx => Below W6.heap.size W6 wx)
            (repeat (first | with_reducible assumption | with_reducible exact HL7.out | with_reducible refine Below.drew ?_))
            (first
              | (go_at_call 22; (with_reducible refine (HC2.out _ (by repeat (first | with_reducible assumption | with_reducible exact HL7.out | with_reducible refine Below.drew ?_))).mono ?_); rintro e u2 ⟨rfl, rfl⟩)
              | (go_at_call 21; (with_reducible refine (HC1.out _ (by repeat (first | with_reducible assumption | with_reducible exact HL7.out | with_reducible refine Below.drew ?_))).mono ?_); rintro e u1 ⟨rfl, hG1⟩; have hU1 : Below W6.heap.size W6 u1 := keepBG (by repeat (first | with_reducible assumption | with_reducible exact HL7.out | with_reducible refine Below.drew ?_)) hG1)
              | (go_at_call 21; (with_reducible refine (HC3.out _ (by repeat (first | with_reducible assumption | with_reducible exact HL7.out | with_reducible refine Below.drew ?_))).mono ?_); rintro e u3 ⟨rfl, hG3⟩; have hU3 : Below W6.heap.size W6 u3 := keepBG (by repeat (first | with_reducible assumption | with_reducible exact HL7.out | with_reducible refine Below.drew ?_)) hG3)
              | fail "no arm")
          all_goals (go_wp2_with fail; go_meet)
          all_goals exact ⟨rfl, Lib.hid hU3⟩
      case rest =>
        obtain ⟨rfl, HS8⟩ := hcut
        clear HC1 HC2 HC3 rn0 rn1 rn2 rn3 rn4 rm0 rm1 rm2 rm3 rm4 rz0 rz1 rz2 rz3 rz4
        obtain ⟨ii, hii, hmi⟩ : ∃ ii : Nat, ii < B.length ∧ (y0 : Int) % (B.length : Int) = (ii : Int) := ⟨y0 % B.length, Nat.mod_lt _ (by omega), by rw [Int.natCast_emod]⟩
        obtain ⟨d, hcd⟩ : ∃ d : UInt8, (y1 : Int) % 256 = ((d.toNat : Nat) : Int) := ⟨UInt8.ofNat y1, by rw [UInt8.toNat_ofNat']; omega⟩
        have hiiz : (ii : Int) < (B.length : Int) := by omega
        have HWc : Hid (Below w4.heap.size w4 wc) := Lib.hid (HS7.out.trans (HS8.out.mono HS7.out.size))
        have HWW : Hid (Below W1.heap.size W1 wc) := Lib.hid ((H1.out.trans (HS4.out.mono H1.out.size)).trans (HWc.out.mono (H1.out.trans (HS4.out.mono H1.out.size)).size))
        have HYc : Hid (Blk wc (w.heap.size + 1) 57 #[.int .u16 (y0 : Int), .int .u16 (y1 : Int)]) := Lib.hid (HY.out.below HWW.out HY.out.lt)
        have HBB8 := Lib.hid (HBB7.out.below HS8.out)
        have hyc := HYc.out.lt
        clear HBB7 HCC7 HNK HNM HNZ HK7 HM7 HZ HL7 H8 H9 HS7 HS8 HWc HY
        go_wp2_with (at_builtin; refine append_bytesG rfl _ _ rfl wc.heap.size _ [] rfl (own_emptyB wc wc.heap.size (Nat.le_refl _)) _ B rfl (HBB8.out.below (below_box _)) (by simp only [List.length_nil]; omega) (by simp) ?_; intro v9 w9 hown9 hb9; rw [List.nil_append] at hown9; obtain ⟨qa, c9, rfl, hqa1, hqa2, hqa3⟩ := ownB_form hown9; obtain ⟨g, rfl⟩ := hqa3 hBp; unfold maxLen at hqa2; have O9 := Lib.hid hown9; have HS9 : Hid (Below wc.heap.size wc w9) := Lib.hid ((below_box _).trans (hb9.mono (Nat.le_refl _))); have HY9 := Lib.hid (HYc.out.below HS9.out hyc); have yz0 := HY9.out.c0 0 _ rfl; have yz1 := HY9.out.c0 1 _ rfl; have gi := ownB_cell O9.out ii hii; have gf := ownB_free O9.out ii; have hsz9 := HS9.out.size; clear hown9 hb9 hqa3)
        go_region
        go_wp2_with fail
        obtain ⟨o3, b3⟩ := ownB_set O9.out ii d hsz9
        obtain ⟨WL, hWL⟩ : ∃ WL, WL = ((w9.setCell ⟨g, ii, none⟩ (.int .u8 d.toNat)).alloc (.cells #[.slice (some ⟨g, 0, none⟩) B.length c9, .slice pm raw.length cm] 64)).drew := ⟨_, rfl⟩
        have HLB : Hid (Blk WL w9.heap.size 64 #[.slice (some ⟨g, 0, none⟩) B.length c9, .slice pm raw.length cm]) := Lib.hid (by rw [hWL]; exact blk_next _ _ (w9.setCell ⟨g, ii, none⟩ (.int .u8 d.toNat)) w9.heap.size (by simp))
        have HBL : Hid (Below wc.heap.size wc WL) := Lib.hid (by
          rw [hWL]
          exact (keepAQ (HS9.out.trans b3) _).drew)
        have HL1 : Hid (IsBytes WL (.slice (some ⟨g, 0, none⟩) B.length c9) (B.set ii d)) := Lib.hid (by
          rw [hWL]
          exact (o3.is.below (below_box _)).below (below_drewN _ 1))
        have HwWL : Hid (Below w.heap.size w WL) := Lib.hid ((HG.out.trans (HWW.out.mono HG.out.size)).trans (HBL.out.mono (HG.out.trans (HWW.out.mono HG.out.size)).size))
        have HL2 : Hid (IsBytes WL (.slice pm raw.length cm) raw) := Lib.hid (HM.out.below HwWL.out)
        rw [← hWL]
        clear hWL o3 b3 hmi hcd O9 HS9 HY9 yz0 yz1 gi gf hsz9 HYc HBB8 hyc HM HWW HBL HG H1 HS4 HW1
        go_loopw [16] (fun i wr => ∃ k : Nat, k ≤ 2 ∧ i = .int .i64 k ∧ Below WL.heap.size WL wr) (fun i _ => 2 - (intOf i).toNat)
        case atStart => exact ⟨0, by omega, rfl, Below.refl _ _⟩
        case round =>
          obtain ⟨k, hk, rfl, hbel⟩ := hrel
          have Hbel := Lib.hid hbel
          clear hbel
          by_cases hlt : k < 2
          · have hltz : (k : Int) < 2 := by omega
            obtain ⟨pl, nl, cl, l, hnl, hcell, hIs, hll⟩ : ∃ (pl : Option Addr) (nl cl : Nat) (l : Bs), nl = l.length ∧ (∀ wx, Below WL.heap.size WL wx → wx.cell? ⟨w9.heap.size, k, none⟩ = some (.slice pl nl cl)) ∧ Hid (IsBytes WL (.slice pl nl cl) l) ∧ l.length ≤ 3000 := by
              have h01 : k = 0 ∨ k = 1 := by omega
              rcases h01 with rfl | rfl
              · exact ⟨_, _, _, B.set ii d, (List.length_set ..).symm, fun wx hb => (HLB.out.below hb HLB.out.lt).c0 0 _ rfl, HL1, by rw [List.length_set]; omega⟩
              · exact ⟨_, _, _, raw, rfl, fun wx hb => (HLB.out.below hb HLB.out.lt).c0 1 _ rfl, HL2, by omega⟩
            have hcr := hcell _ Hbel.out
            have HNL := Lib.hid hnl
            clear hnl
            go_wp2_with fail
            refine (nparse_w (.slice pl nl cl) l _ (hIs.out.below Hbel.out)).mono ?_
            rintro e wq ⟨vq, rfl, hnq, hbq⟩
            have HBq := Lib.hid hbq
            clear hbq hcr
            cases hp : parseN l with
            | none =>
              rw [hp] at hnq
              have HNq := Lib.hid hnq.is
              clear hnq hp
              obtain ⟨z0, z1, z2, z3, z4, z5, z6, z7, z8, z9, z10, z11, z12, z13, z14, rfl⟩ := node_slices HNq.out
              go_wp2_with fail
              obtain ⟨W0, hW0⟩ : ∃ W0, W0 = wq.alloc (.cells #[.slice z0 z1 z2, .slice z3 z4 z5, .slice z6 z7 z8, .slice z9 z10 z11, .slice z12 z13 z14] 34) := ⟨_, rfl⟩
              have HQB : Hid (Blk W0 wq.heap.size 34 #[.slice z0 z1 z2, .slice z3 z4 z5, .slice z6 z7 z8, .slice z9 z10 z11, .slice z12 z13 z14]) := Lib.hid (by rw [hW0]; exact Blk.new _ _ _)
              have HQ0 : Hid (Below wq.heap.size wq W0) := Lib.hid (by rw [hW0]; exact below_box _)
              rw [← hW0]
              clear hW0
              have hq0 : ∀ wx, Below W0.heap.size W0 wx → wx.cell? ⟨wq.heap.size, 0, none⟩ = some (.slice z0 z1 z2) := fun wx hb => (HQB.out.below hb HQB.out.lt).c0 0 _ rfl
              have hq1 : ∀ wx, Below W0.heap.size W0 wx → wx.cell? ⟨wq.heap.size, 1, none⟩ = some (.slice z3 z4 z5) := fun wx hb => (HQB.out.below hb HQB.out.lt).c0 1 _ rfl
              have hq2 : ∀ wx, Below W0.heap.size W0 wx → wx.cell? ⟨wq.heap.size, 2, none⟩ = some (.slice z6 z7 z8) := fun wx hb => (HQB.out.below hb HQB.out.lt).c0 2 _ rfl
              have hq3 : ∀ wx, Below W0.heap.size W0 wx → wx.cell? ⟨wq.heap.size, 3, none⟩ = some (.slice z9 z10 z11) := fun wx hb => (HQB.out.below hb HQB.out.lt).c0 3 _ rfl
              have hq4 : ∀ wx, Below W0.heap.size W0 wx → wx.cell? ⟨wq.heap.size, 4, none⟩ = some (.slice z12 z13 z14) := fun wx hb => (HQB.out.below hb HQB.out.lt).c0 4 _ rfl
              have HWLq : Hid (Below WL.heap.size WL W0) := Lib.hid ((Hbel.out.trans (HBq.out.mono Hbel.out.size)).trans (HQ0.out.mono (Hbel.out.trans (HBq.out.mono Hbel.out.size)).size))
              have hlq : ∀ wx, Below W0.heap.size W0 wx → wx.cell? ⟨w9.heap.size, k, none⟩ = some (.slice pl nl cl) := fun wx hb => hcell wx (HWLq.out.trans (hb.mono HWLq.out.size))
              have HNq0 := Lib.hid (HNq.out.below HQ0.out)
              refine regB16b_w W0 w9.heap.size wq.heap.size k hltz pl nl cl z0 z3 z6 z9 z12 z1 z2 z4 z5 z7 z8 z10 z11 z13 z14 l hq0 hq1 hq2 hq3 hq4 hlq (fun wx hb => (rsame10_w _ _ noNd noNd wx (HNq0.out.below hb) (nil_node wx)).mono fun e w' hh => ⟨by rw [hh.1]; rfl, hh.2⟩) _ _ _ _ _ _ _ _ _ _ _ _ _ _ _ _ _ _ _ _ _ _ _ _ _ _ _ _ _ _ _ _ _ _ _ _ _ _ _ _ _ _ _ _ _ _ _ _ _ _ _ _ _ _ _ _ _ _ _ _ _ _ _ _ _ _ _ _ _ _ _ _ _ _ _ _ _ _ _ _ _ _ _ _ _ _ _ _ _ _ _ _ _ _ _ _ _ _ _ _ _ _ _ _ _ _ _ _ _ _ _ _ _ _ _ _ _ _ ?_
              intro t89 t90 t91 t92 t93 t94 t95 t96 t97 t98 t99 t100 t101 t102 t103 t104 t105 t106 t107 t108 t109 t110 t111 t112 t113 t114 t115 t116 t117 t118 wx hS
              have HRR := Lib.hid (HWLq.out.trans (hS.mono HWLq.out.size))
              clear hS
              go_wp2_with fail
              go_roundw
              case rel => exact ⟨k + 1, by omega, by go_num, HRR.out⟩
              case measure => simp [intOf]; omega
            | some nq =>
              obtain ⟨pv, pp, pf, pb⟩ := parseN_all hp
              have hsz := small_of_bytes nq pv pp (by rw [pb]; exact hll)
              rw [hp] at hnq
              have HNq : Hid (IsNode wq vq nq) := Lib.hid hnq.is
              have HPV := Lib.hid pv
              have HPB := Lib.hid pb
              have HSZ := Lib.hid hsz
              clear hnq hp pv pp pf pb hsz
              obtain ⟨z0, z1, z2, z3, z4, z5, z6, z7, z8, z9, z10, z11, z12, z13, z14, rfl⟩ := node_slices HNq.out
              go_wp2_with fail
              obtain ⟨W0, hW0⟩ : ∃ W0, W0 = wq.alloc (.cells #[.slice z0 z1 z2, .slice z3 z4 z5, .slice z6 z7 z8, .slice z9 z10 z11, .slice z12 z13 z14] 34) := ⟨_, rfl⟩
              have HQB : Hid (Blk W0 wq.heap.size 34 #[.slice z0 z1 z2, .slice z3 z4 z5, .slice z6 z7 z8, .slice z9 z10 z11, .slice z12 z13 z14]) := Lib.hid (by rw [hW0]; exact Blk.new _ _ _)
              have HQ0 : Hid (Below wq.heap.size wq W0) := Lib.hid (by rw [hW0]; exact below_box _)
              rw [← hW0]
              clear hW0
              have hq0 : ∀ wx, Below W0.heap.size W0 wx → wx.cell? ⟨wq.heap.size, 0, none⟩ = some (.slice z0 z1 z2) := fun wx hb => (HQB.out.below hb HQB.out.lt).c0 0 _ rfl
              have hq1 : ∀ wx, Below W0.heap.size W0 wx → wx.cell? ⟨wq.heap.size, 1, none⟩ = some (.slice z3 z4 z5) := fun wx hb => (HQB.out.below hb HQB.out.lt).c0 1 _ rfl
              have hq2 : ∀ wx, Below W0.heap.size W0 wx → wx.cell? ⟨wq.heap.size, 2, none⟩ = some (.slice z6 z7 z8) := fun wx hb => (HQB.out.below hb HQB.out.lt).c0 2 _ rfl
              have hq3 : ∀ wx, Below W0.heap.size W0 wx → wx.cell? ⟨wq.heap.size, 3, none⟩ = some (.slice z9 z10 z11) := fun wx hb => (HQB.out.below hb HQB.out.lt).c0 3 _ rfl
              have hq4 : ∀ wx, Below W0.heap.size W0 wx → wx.cell? ⟨wq.heap.size, 4, none⟩ = some (.slice z12 z13 z14) := fun wx hb => (HQB.out.below hb HQB.out.lt).c0 4 _ rfl
              have HWLq : Hid (Below WL.heap.size WL W0) := Lib.hid ((Hbel.out.trans (HBq.out.mono Hbel.out.size)).trans (HQ0.out.mono (Hbel.out.trans (HBq.out.mono Hbel.out.size)).size))
              have hlq : ∀ wx, Below W0.heap.size W0 wx → wx.cell? ⟨w9.heap.size, k, none⟩ = some (.slice pl nl cl) := fun wx hb => hcell wx (HWLq.out.trans (hb.mono HWLq.out.size))
              have HNq0 := Lib.hid (HNq.out.below HQ0.out)
              refine regB16a_w W0 w9.heap.size wq.heap.size k hltz pl nl cl z0 z3 z6 z9 z12 z1 z2 z4 z5 z7 z8 z10 z11 z13 z14 l hq0 hq1 hq2 hq3 hq4 hlq
                (fun wx hb => (valid10_w _ nq ([], []) wx (HNq0.out.below hb) (Nat.le_trans HSZ.out.1 (by decide)) (fun m hm wy => rvalidV_w m wy (valid_sizeM (node_msg HPV.out hm)))).mono fun e w' hh => ⟨by rw [hh.1, HPV.out], hh.2⟩)
                (fun wx hb => by
                  have h := q_bytes _ nq l wx (HNq0.out.below hb) HSZ.out HPB.out
                  rw [← HNL.out] at h
                  exact h)
                (fun wx p c hb hx => by
                  have h := samebytes_w _ _ l l wx hx (hIs.out.below (HWLq.out.trans (hb.mono HWLq.out.size)))
                  rw [decide_eq_true rfl] at h
                  exact h) _ _ _ _ _ _ _ _ _ _ _ _ _ _ _ _ _ _ _ _ _ _ _ _ _ _ _ _ _ _ _ _ _ _ _ _ _ _ _ _ _ _ _ _ _ _ _ _ _ _ _ _ _ _ _ _ _ _ _ _ _ _ _ _ _ _ _ _ _ _ _ _ _ _ _ _ _ _ _ _ _ _ _ _ _ _ _ _ _ _ _ _ _ _ _ _ _ _ _ _ _ _ _ _ _ _ _ _ _ _ _ _ _ _ _ _ _ _ ?_
              intro t89 t90 t91 t92 t93 t94 t95 t96 t97 t98 t99 t100 t101 t102 t103 t104 t105 t106 t107 t108 t109 t110 t111 t112 t113 t114 t115 t116 t117 t118 wx hS
              have HRR := Lib.hid (HWLq.out.trans (hS.mono HWLq.out.size))
              clear hS
              go_wp2_with fail
              go_roundw
              case rel => exact ⟨k + 1, by omega, by go_num, HRR.out⟩
              case measure => simp [intOf]; omega
          · obtain rfl : k = 2 := by omega
            go_wp2
            go_ret
            exact ⟨rfl, HwWL.out.trans (Hbel.out.mono HwWL.out.size)⟩
  · have h100z : (100 : Int) < (raw.length : Int) := by omega
    clear HX HY hr1 hr2
    go_enter Tryz.func4, Tryz.ntmps4
    go_wp2_with fail
    rw [← HW1.out]
    refine (nsan_w _).mono ?_
    rintro e1 w1 ⟨rfl, hb1⟩
    have H1 := Lib.hid (HG.out.trans (hb1.mono HG.out.size))
    clear hb1
    go_wp2
    go_ret
    exact ⟨rfl, H1.out⟩

end Go.Proofs.YtmbfghbhajmpiaaGreat
