/-
  Walk of the law NodeSpans.
-/
import Derived.Test.YtmbfghbhajmpiaaGreatYDV
import Derived.Test.YtmbfghbhajmpiaaGreatYEB
import Derived.Test.YtmbfghbhajmpiaaGreatYEC
namespace Go.Proofs.YtmbfghbhajmpiaaGreat
open Go.RowKit Go.Deep Go.Sort
set_option linter.unusedVariables false

theorem node_msgS {n : Nd} {s : Sp} (h : validN n s = true) {m : Ms} (hm : m ∈ n.buf) : validM m = true := by
  by_cases hk : n.kids = []
  · obtain ⟨_, _, h3, _⟩ := valid_leaf h hk
    rw [h3] at hm; cases hm
  · obtain ⟨_, _, _, _, _, _, h7⟩ := valid_inner h hk
    have := h7 m hm
    unfold bufB at this
    rw [Bool.and_eq_true] at this
    exact this.1
theorem node_kids {w : World} {a b d e : Value} {p : Option Addr} {l c : Nat} {n : Nd} (h : IsNode w (.agg #[a, b, .slice p l c, d, e]) n) : l = n.kids.length := by
  obtain ⟨a', b', c', d', e', h0, h1, h2, h3, h4, h5⟩ := h
  simp at h0
  obtain ⟨rfl, rfl, rfl, rfl, rfl⟩ := h0
  obtain ⟨_, _, he, _⟩ := h3
  injection he
set_option maxRecDepth 100000 in
set_option maxHeartbeats 8000000 in
theorem nodeSpans_walk (w : World) (v0 : Value) (x : Rq) (h0 : IsRq w v0 x) (v1 : Value) (y : Nat × Nat) (h1 : v1 = .agg #[.int .u8 y.1, .int .u8 y.2] ∧ y.1 < 256 ∧ y.2 < 256) (v2 : Value) (k : Bs) (h2 : v2 = .string (Str k)) :
    Calls Tryz.prog 7 #[v0, v1, v2] w fun e w' => e = .returned (.bool true) ∧ Below w.heap.size w w' := by
  have mixed := mixedA
  obtain ⟨y0, y1⟩ := y
  obtain ⟨rfl, hy0, hy1⟩ := h1
  dsimp only at hy0 hy1 ⊢
  subst h2
  have hsm := h0.small
  have hval := madeQ_valid x hsm
  have HMD := Lib.hid (fun wx (hb : Below w.heap.size w wx) => nmade_w v0 x wx (h0.below hb))
  obtain ⟨a0, a1, a2, a3, a4, rfl, hr⟩ := id h0
  have hpne := madeQ_pne x
  have HSRT := Lib.hid (madeQ_srt x)
  have hsmall := madeQ_smallN x
  have HVAL := Lib.hid hval
  have HSM := Lib.hid hsmall
  have HBV := Lib.hid (fun (m : Ms) (hm : m ∈ (madeQ x).buf) => valid_sizeM (node_msgS hval hm))
  clear h0 hr hsm hval hsmall
  generalize madeQ x = n at *
  obtain ⟨W1, hW1⟩ : ∃ W1, W1 = (w.alloc (.cells #[a0, a1, a2, a3, a4] 27)).alloc (.cells #[.int .u8 (y0 : Int), .int .u8 (y1 : Int)] 43) := ⟨_, rfl⟩
  have HX : Hid (Blk W1 w.heap.size 27 #[a0, a1, a2, a3, a4]) := Lib.hid (by rw [hW1]; exact (Blk.new _ _ _).alloc _)
  have HY : Hid (Blk W1 (w.heap.size + 1) 43 #[.int .u8 (y0 : Int), .int .u8 (y1 : Int)]) := Lib.hid (by rw [hW1]; exact Blk.new' _ _ _ (by simp))
  have HG : Hid (Below w.heap.size w W1) := Lib.hid (by rw [hW1]; exact (((Grown.refl w).alloc _).alloc _).below (Nat.le_refl _))
  have HW1 := Lib.hid hW1
  clear hW1
  by_cases hk : (k.length : Int) ≤ 60
  · go_enter Tryz.func7, Tryz.ntmps7
    go_wp2_with fail
    rw [← HW1.out]
    refine (nsan_w _).mono ?_
    rintro e1 w1 ⟨rfl, hb1⟩
    have H1 := Lib.hid hb1
    clear hb1
    have HA := fun wx (hb : Below w1.heap.size w1 wx) => HMD.out wx ((HG.out.trans (H1.out.mono HG.out.size)).trans (hb.mono (HG.out.trans (H1.out.mono HG.out.size)).size))
    have HB := fun wx (hb : Below w1.heap.size w1 wx) => T4.span_w y0 y1 wx hy0 hy1
    have HXB := fun wx (hb : Below w1.heap.size w1 wx) => (HX.out.below H1.out HX.out.lt).below hb (HX.out.below H1.out HX.out.lt).lt
    have HYB := fun wx (hb : Below w1.heap.size w1 wx) => (HY.out.below H1.out HY.out.lt).below hb (HY.out.below H1.out HY.out.lt).lt
    obtain ⟨lo, hlo⟩ : ∃ lo, lo = (T4.spanS y0 y1).1 := ⟨_, rfl⟩
    obtain ⟨hi, hhi⟩ : ∃ hi, hi = (T4.spanS y0 y1).2 := ⟨_, rfl⟩
    simp only [← hlo, ← hhi] at HB
    clear hlo hhi HMD HX HY hy0 hy1
    go_wp2_with fail
    refine regS4_w w1 w.heap.size (w.heap.size + 1) a0 a1 a2 a3 a4 y0 y1 n lo hi hpne HXB HYB HA HB _ _ _ _ _ _ _ _ _ _ _ _ _ _ _ _ _ _ _ _ _ _ _ _ _ _ _ _ _ _ _ _ _ _ _ _ _ _ _ _ _ _ _ _ _ _ _ _ _ _ _ _ _ _ _ _ _ _ _ _ _ _ _ _ _ _ _ _ _ _ _ _ _ _ _ _ _ _ _ _ _ _ _ _ _ _ _ _ _ _ _ _ _ _ _ _ _ _ _ _ _ _ _ _ _ _ _ _ _ _ _ _ _ _ _ _ _ _ _ _ ?_
    intro t18 t19 t20 t21 b8 b9 k0 k1 k2 k3 k4 k5 k6 k7 k8' k9' k10 k11 k12 k13 k14 w4 hS h8 hn h9
    have HS4 := Lib.hid hS
    have H8 := Lib.hid h8
    have H9 := Lib.hid h9
    have HN := Lib.hid hn
    clear hS h8 h9 hn HA HB HXB HYB hpne
    have HL0 : Hid (Below w4.heap.size w4 w4) := Lib.hid (Below.refl _ _)
    have k8 := fun wx (hb : Below w4.heap.size w4 wx) => H8.out.below hb H8.out.lt
    have k9 := fun wx (hb : Below w4.heap.size w4 wx) => H9.out.below hb H9.out.lt
    have kn0 : ∀ wx, Below w4.heap.size w4 wx → wx.cell? ⟨b8, 0, none⟩ = some (.slice k0 k1 k2) := fun wx hb => (k8 wx hb).c0 0 _ rfl
    have kn1 : ∀ wx, Below w4.heap.size w4 wx → wx.cell? ⟨b8, 1, none⟩ = some (.slice k3 k4 k5) := fun wx hb => (k8 wx hb).c0 1 _ rfl
    have kn2 : ∀ wx, Below w4.heap.size w4 wx → wx.cell? ⟨b8, 2, none⟩ = some (.slice k6 k7 k8') := fun wx hb => (k8 wx hb).c0 2 _ rfl
    have kn3 : ∀ wx, Below w4.heap.size w4 wx → wx.cell? ⟨b8, 3, none⟩ = some (.slice k9' k10 k11) := fun wx hb => (k8 wx hb).c0 3 _ rfl
    have kn4 : ∀ wx, Below w4.heap.size w4 wx → wx.cell? ⟨b8, 4, none⟩ = some (.slice k12 k13 k14) := fun wx hb => (k8 wx hb).c0 4 _ rfl
    have ks0 : ∀ wx, Below w4.heap.size w4 wx → wx.cell? ⟨b9, 0, none⟩ = some (.string (Str lo)) := fun wx hb => (k9 wx hb).c0 0 _ rfl
    have ks1 : ∀ wx, Below w4.heap.size w4 wx → wx.cell? ⟨b9, 1, none⟩ = some (.string (Str hi)) := fun wx hb => (k9 wx hb).c0 1 _ rfl
    clear k8 k9
    have HEM := Lib.hid (fun wx => rempty_w lo hi wx)
    have HVA := Lib.hid (fun wx (hb : Below w4.heap.size w4 wx) => nvalid_w (.agg #[.slice k0 k1 k2, .slice k3 k4 k5, .slice k6 k7 k8', .slice k9' k10 k11, .slice k12 k13 k14]) n (lo, hi) wx (HN.out.below hb) (Nat.le_trans HSM.out.1 (by decide)))
    have HF4 : Hid (Below w.heap.size w w4) := Lib.hid ((HG.out.trans (H1.out.mono HG.out.size)).trans (HS4.out.mono (HG.out.trans (H1.out.mono HG.out.size)).size))
    have HRV := Lib.hid (fun wx (hb : Below w4.heap.size w4 wx) => valid10_w (.agg #[.slice k0 k1 k2, .slice k3 k4 k5, .slice k6 k7 k8', .slice k9' k10 k11, .slice k12 k13 k14]) n (lo, hi) wx (HN.out.below hb) (Nat.le_trans HSM.out.1 (by decide)) (fun m hm wy => rvalidV_w m wy (HBV.out m hm)))
    have HVE : Hid (∀ wx, Below w4.heap.size w4 wx → Calls Tryz.prog 17 #[.agg #[.slice k0 k1 k2, .slice k3 k4 k5, .slice k6 k7 k8', .slice k9' k10 k11, .slice k12 k13 k14], .agg #[.string ⟨#[]⟩, .string ⟨#[]⟩]] wx fun e w' => e = .returned (.bool true) ∧ Grown wx w') := Lib.hid (fun wx (hb : Below w4.heap.size w4 wx) => by
      have h := nvalid_w (.agg #[.slice k0 k1 k2, .slice k3 k4 k5, .slice k6 k7 k8', .slice k9' k10 k11, .slice k12 k13 k14]) n ([], []) wx (HN.out.below hb) (Nat.le_trans HSM.out.1 (by decide))
      rw [HVAL.out] at h
      exact h)
    have HSP := Lib.hid (fun wx (hb : Below w4.heap.size w4 wx) => nspans_w (.agg #[.slice k0 k1 k2, .slice k3 k4 k5, .slice k6 k7 k8', .slice k9' k10 k11, .slice k12 k13 k14]) n (lo, hi) wx (HN.out.below hb) (Nat.le_trans HSM.out.2.2.1 (by decide)))
    have g0 := kn0 w4 (Below.refl _ _)
    have g1 := kn1 w4 (Below.refl _ _)
    have g2 := kn2 w4 (Below.refl _ _)
    have g3 := kn3 w4 (Below.refl _ _)
    have g4 := kn4 w4 (Below.refl _ _)
    have g5 := ks0 w4 (Below.refl _ _)
    have g6 := ks1 w4 (Below.refl _ _)
    obtain ⟨V, hV⟩ : ∃ V, V = validN n (lo, hi) := ⟨_, rfl⟩
    have HVV := Lib.hid hV
    rw [← hV] at HVA HRV
    clear hV HG H1 HS4 HW1
    cases hE : emptyB (lo, hi) with
    | true =>
      rw [hE] at HEM
      clear hE HSP HVE
      cases V
      all_goals
        go_wp2_with (first
          | (go_at_call 32; refine (HEM.out _).mono ?_; rintro e w5 ⟨rfl, hg5⟩; have S5 := Lib.hid (keepBG (Below.refl w4.heap.size w4) hg5); have e0 := kn0 _ S5.out; have e1 := kn1 _ S5.out; have e2 := kn2 _ S5.out; have e3 := kn3 _ S5.out; have e4 := kn4 _ S5.out; have e5 := ks0 _ S5.out; have e6 := ks1 _ S5.out; clear hg5))
        have HQ0 := Lib.hid S5.out
        go_region_held3 (fun wx => Below w4.heap.size w4 wx)
          (repeat (first | with_reducible assumption | with_reducible exact HQ0.out | with_reducible refine Below.drew ?_))
          (first
            | (go_at_call 17; (with_reducible refine (HVA.out _ (by repeat (first | with_reducible assumption | with_reducible exact HQ0.out | with_reducible refine Below.drew ?_))).mono ?_); rintro e u1 ⟨rfl, hG1⟩; have hU1 : Below w4.heap.size w4 u1 := keepBG (by repeat (first | with_reducible assumption | with_reducible exact HQ0.out | with_reducible refine Below.drew ?_)) hG1)
            | (go_at_call 18; (with_reducible refine (HRV.out _ (by repeat (first | with_reducible assumption | with_reducible exact HQ0.out | with_reducible refine Below.drew ?_))).mono ?_); rintro e u2 ⟨rfl, hb2⟩; have hU2 : Below w4.heap.size w4 u2 := Below.trans (by repeat (first | with_reducible assumption | with_reducible exact HQ0.out | with_reducible refine Below.drew ?_)) (hb2.mono (Below.size (by repeat (first | with_reducible assumption | with_reducible exact HQ0.out | with_reducible refine Below.drew ?_)))))
            | fail "no arm")
        all_goals (have HZ := Lib.hid hU2; clear hU1 hU2)
        all_goals go_wp2_with fail
        all_goals go_ret
        all_goals exact ⟨rfl, HF4.out.trans (HZ.out.mono HF4.out.size)⟩
    | false =>
      rw [hE] at HEM
      have HEF := Lib.hid hE
      clear hE
      cases V with
      | false =>
        clear HSP HVE
        go_wp2_with (first
          | (go_at_call 32; refine (HEM.out _).mono ?_; rintro e w5 ⟨rfl, hg5⟩; have S5 := Lib.hid (keepBG (Below.refl w4.heap.size w4) hg5); have e0 := kn0 _ S5.out; have e1 := kn1 _ S5.out; have e2 := kn2 _ S5.out; have e3 := kn3 _ S5.out; have e4 := kn4 _ S5.out; have e5 := ks0 _ S5.out; have e6 := ks1 _ S5.out; clear hg5)
          | (go_at_call 17; refine (HVA.out _ S5.out).mono ?_; rintro e w6 ⟨rfl, hg6⟩; have S6 := Lib.hid (keepBG S5.out hg6); have f0 := kn0 _ S6.out; have f1 := kn1 _ S6.out; have f2 := kn2 _ S6.out; have f3 := kn3 _ S6.out; have f4 := kn4 _ S6.out; have f5 := ks0 _ S6.out; have f6 := ks1 _ S6.out; clear hg6))
        have HQ0 := Lib.hid S6.out
        go_region_held3 (fun wx => Below w4.heap.size w4 wx)
          (repeat (first | with_reducible assumption | with_reducible exact HQ0.out | with_reducible refine Below.drew ?_))
          (first
            | (go_at_call 17; (with_reducible refine (HVA.out _ (by repeat (first | with_reducible assumption | with_reducible exact HQ0.out | with_reducible refine Below.drew ?_))).mono ?_); rintro e u1 ⟨rfl, hG1⟩; have hU1 : Below w4.heap.size w4 u1 := keepBG (by repeat (first | with_reducible assumption | with_reducible exact HQ0.out | with_reducible refine Below.drew ?_)) hG1)
            | (go_at_call 18; (with_reducible refine (HRV.out _ (by repeat (first | with_reducible assumption | with_reducible exact HQ0.out | with_reducible refine Below.drew ?_))).mono ?_); rintro e u2 ⟨rfl, hb2⟩; have hU2 : Below w4.heap.size w4 u2 := Below.trans (by repeat (first | with_reducible assumption | with_reducible exact HQ0.out | with_reducible refine Below.drew ?_)) (hb2.mono (Below.size (by repeat (first | with_reducible assumption | with_reducible exact HQ0.out | with_reducible refine Below.drew ?_)))))
            | fail "no arm")
        all_goals (have HZ := Lib.hid hU2; clear hU1 hU2)
        all_goals go_wp2_with fail
        all_goals go_ret
        all_goals exact ⟨rfl, HF4.out.trans (HZ.out.mono HF4.out.size)⟩
      | true =>
        clear HRV
        have HK7 := Lib.hid (node_kids HN.out)
        by_cases hkd : n.kids = []
        · simp only [if_pos hkd] at HSP
          obtain rfl : k7 = 0 := by rw [HK7.out, hkd]; rfl
          go_wp2_with (first
            | (go_at_call 32; refine (HEM.out _).mono ?_; rintro e w5 ⟨rfl, hg5⟩; have S5 := Lib.hid (keepBG (Below.refl w4.heap.size w4) hg5); have e0 := kn0 _ S5.out; have e1 := kn1 _ S5.out; have e2 := kn2 _ S5.out; have e3 := kn3 _ S5.out; have e4 := kn4 _ S5.out; have e5 := ks0 _ S5.out; have e6 := ks1 _ S5.out; clear hg5)
            | (go_at_call 17; refine (HVA.out _ S5.out).mono ?_; rintro e w6 ⟨rfl, hg6⟩; have S6 := Lib.hid (keepBG S5.out hg6); have f0 := kn0 _ S6.out; have f1 := kn1 _ S6.out; have f2 := kn2 _ S6.out; have f3 := kn3 _ S6.out; have f4 := kn4 _ S6.out; have f5 := ks0 _ S6.out; have f6 := ks1 _ S6.out; clear hg6))
          refine (HSP.out _ S6.out).mono ?_
          rintro e w7 ⟨vS, rfl, hown7, hb7⟩
          have HR7 := Lib.hid (IsSpans.owned hown7)
          have S7 := Lib.hid (Below.trans S6.out (hb7.mono S6.out.size))
          obtain ⟨aS, cS, rfl, hcl, hcm, -⟩ := id HR7.out
          have q0 := kn0 _ S7.out; have q1 := kn1 _ S7.out; have q2 := kn2 _ S7.out; have q3 := kn3 _ S7.out; have q4 := kn4 _ S7.out; have q5 := ks0 _ S7.out; have q6 := ks1 _ S7.out
          clear hown7 hb7 e0 e1 e2 e3 e4 e5 e6 f0 f1 f2 f3 f4 f5 f6 g0 g1 g2 g3 g4 g5 g6
          go_wp2_with fail
          refine (HVE.out _ S7.out).mono ?_
          rintro e w8 ⟨rfl, hg8⟩
          have S8 := Lib.hid (keepBG S7.out hg8)
          clear hg8
          go_wp2_with fail
          go_ret
          exact ⟨rfl, HF4.out.trans (S8.out.mono HF4.out.size)⟩
        · simp only [if_neg hkd] at HSP
          have hVI := valid_inner HVV.out.symm hkd
          have HLK : Hid ((partsF (lo, hi) [] n.pivots).length = n.kids.length) := Lib.hid (by rw [partsF_len]; exact hVI.2.2.1)
          have HL0' := Lib.hid (parts_first (s := (lo, hi)) HEF.out hVI.2.2.2.2.1)
          have HLL := Lib.hid (parts_last (s := (lo, hi)) HEF.out n.pivots [] (.inl rfl) (pivB_has hVI.2.2.2.2.1))
          have HLC := Lib.hid (parts_cnt (lo, hi) k n.pivots [] HSRT.out (less_nil k))
          have HLP : Hid (n.pivots.length = (partsF (lo, hi) [] n.pivots).length - 1) := Lib.hid (by rw [partsF_len]; rfl)
          rw [← HLK.out] at HK7
          rw [HLP.out] at HLL
          have hkp : 0 < (partsF (lo, hi) [] n.pivots).length := by rw [partsF_len]; exact Nat.succ_pos _
          have hkm : (partsF (lo, hi) [] n.pivots).length ≤ 1001 := by rw [partsF_len]; have := HSM.out.2.2.1; omega
          clear hVI HLK HLP hkd HSRT HVV
          generalize partsF (lo, hi) [] n.pivots = L at *
          obtain rfl := HK7.out
          have hne0 : ¬ ((L.length : Int) = 0) := by omega
          go_wp2_with (first
            | (go_at_call 32; refine (HEM.out _).mono ?_; rintro e w5 ⟨rfl, hg5⟩; have S5 := Lib.hid (keepBG (Below.refl w4.heap.size w4) hg5); have e0 := kn0 _ S5.out; have e1 := kn1 _ S5.out; have e2 := kn2 _ S5.out; have e3 := kn3 _ S5.out; have e4 := kn4 _ S5.out; have e5 := ks0 _ S5.out; have e6 := ks1 _ S5.out; clear hg5)
            | (go_at_call 17; refine (HVA.out _ S5.out).mono ?_; rintro e w6 ⟨rfl, hg6⟩; have S6 := Lib.hid (keepBG S5.out hg6); have f0 := kn0 _ S6.out; have f1 := kn1 _ S6.out; have f2 := kn2 _ S6.out; have f3 := kn3 _ S6.out; have f4 := kn4 _ S6.out; have f5 := ks0 _ S6.out; have f6 := ks1 _ S6.out; clear hg6))
          refine (HSP.out _ S6.out).mono ?_
          rintro e w7 ⟨vS, rfl, hown7, hb7⟩
          have HR7 := Lib.hid (IsSpans.owned hown7)
          have S7 := Lib.hid (Below.trans S6.out (hb7.mono S6.out.size))
          obtain ⟨aS, cS, rfl, hcl, hcm, -⟩ := id HR7.out
          have q0 := kn0 _ S7.out; have q1 := kn1 _ S7.out; have q2 := kn2 _ S7.out; have q3 := kn3 _ S7.out; have q4 := kn4 _ S7.out; have q5 := ks0 _ S7.out; have q6 := ks1 _ S7.out
          clear hown7 hb7 e0 e1 e2 e3 e4 e5 e6 f0 f1 f2 f3 f4 f5 f6 g0 g1 g2 g3 g4 g5 g6
          go_wp2_with fail
          go_loopw [11, 12] (fun cv i wr => ∃ j c : Nat, j ≤ L.length ∧ i = .int .i64 j ∧ cv = .int .i64 c ∧ c ≤ j ∧ Hid (c = (L.take j).countP (fun t => hasB t k)) ∧ Below w7.heap.size w7 wr) (fun _ i _ => L.length - (intOf i).toNat)
          case atStart => exact ⟨0, 0, Nat.zero_le _, rfl, rfl, Nat.le_refl _, Lib.hid rfl, Below.refl _ _⟩
          case round =>
            obtain ⟨j, c, hj, rfl, rfl, hcj, hc, hbel⟩ := hrel
            have Hbel := Lib.hid hbel
            clear hbel
            by_cases hlt : j < L.length
            · have hltz : (j : Int) < (L.length : Int) := by omega
              obtain ⟨bS, oS, cS', he, hbS, hlz, x0, x1⟩ := at_span (HR7.out.below Hbel.out) j hlt
              injection he with he1 he2 he3
              subst he1 he3
              clear he2
              have HCT := Lib.hid (cnt_take L k j hlt)
              generalize L[j] = tq at *
              obtain ⟨tl, th⟩ := tq
              dsimp only at x0 x1
              have HH := Lib.hid (fun wx => rhas_w tl th k wx)
              cases hh : hasB (tl, th) k
              all_goals
                rw [hh] at HH HCT
                clear hh
                go_wp2_with (go_at_call 34; refine (HH.out _).mono ?_; rintro e w9 ⟨rfl, hg9⟩; have S9 := Lib.hid (keepBG Hbel.out hg9); clear hg9)
                go_roundw
                case rel => first | exact ⟨j + 1, c, by omega, by go_num, by go_num, by omega, Lib.hid (by rw [HCT.out, hc.out]; simp), S9.out⟩ | exact ⟨j + 1, c + 1, by omega, by go_num, by go_num, by omega, Lib.hid (by rw [HCT.out, hc.out]; simp), S9.out⟩
                case measure => simp [intOf]; omega
            · have hltz : (L.length : Int) ≤ (j : Int) := by omega
              obtain rfl : j = L.length := by omega
              rw [List.take_length, HLC.out] at hc
              have S8 := Lib.hid (Below.trans S7.out (Hbel.out.mono S7.out.size))
              obtain ⟨bS, oS, cS', he, hbS, hlz, x0, -⟩ := at_span HR7.out 0 hkp
              injection he with he1 he2 he3
              subst he1 he3
              clear he2
              obtain ⟨bS', oS', cS', he, hbS', hlz', -, x1⟩ := at_span HR7.out (L.length - 1) (by omega)
              injection he with he1 he2 he3
              injection he1 with he1
              injection he1 with he1 he4
              subst he1 he3 he4
              rw [HL0'.out hkp] at x0
              obtain ⟨m, hm1, hml⟩ : ∃ m, m + 1 = L.length ∧ m < L.length := ⟨L.length - 1, by omega, by omega⟩
              have e9 : L.length - 1 = m := by omega
              simp only [e9] at x1 HLL
              rw [HLL.out hml] at x1
              have hk2 : IntKind.i64.wrap ((L.length : Int) - 1) = (m : Int) := by rw [IntKind.wrap_i64]; omega
              have hk6 : wrap64 ((L.length : Int) - 1) = (m : Int) := by unfold wrap64; omega
              have hk3 : (0 : Int) ≤ (m : Int) := by omega
              have hk4 : (m : Int) < (L.length : Int) := by omega
              have hk5 : (0 : Int) < (L.length : Int) := by omega
              have hx0 : ∀ wx, Below w7.heap.size w7 wx → wx.cell? ⟨bS, oS, none⟩ = some (.string (Str lo)) := fun wx hb => (hb.cell (p := ⟨bS, oS, none⟩) hbS).trans (by rw [← x0]; simp)
              have hx1 : ∀ wx, Below w7.heap.size w7 wx → wx.cell? ⟨bS, oS + m * 2 + 1, none⟩ = some (.string (Str hi)) := fun wx hb => (hb.cell (p := ⟨bS, oS + m * 2 + 1, none⟩) hbS).trans x1
              have kq0 : ∀ wx, Below w7.heap.size w7 wx → wx.cell? ⟨b8, 0, none⟩ = some (.slice k0 k1 k2) := fun wx h => kn0 wx (Below.trans S7.out (h.mono S7.out.size))
              have kq1 : ∀ wx, Below w7.heap.size w7 wx → wx.cell? ⟨b8, 1, none⟩ = some (.slice k3 k4 k5) := fun wx h => kn1 wx (Below.trans S7.out (h.mono S7.out.size))
              have kq2 : ∀ wx, Below w7.heap.size w7 wx → wx.cell? ⟨b8, 2, none⟩ = some (.slice k6 L.length k8') := fun wx h => kn2 wx (Below.trans S7.out (h.mono S7.out.size))
              have kq3 : ∀ wx, Below w7.heap.size w7 wx → wx.cell? ⟨b8, 3, none⟩ = some (.slice k9' k10 k11) := fun wx h => kn3 wx (Below.trans S7.out (h.mono S7.out.size))
              have kq4 : ∀ wx, Below w7.heap.size w7 wx → wx.cell? ⟨b8, 4, none⟩ = some (.slice k12 k13 k14) := fun wx h => kn4 wx (Below.trans S7.out (h.mono S7.out.size))
              have kq5 : ∀ wx, Below w7.heap.size w7 wx → wx.cell? ⟨b9, 0, none⟩ = some (.string (Str lo)) := fun wx h => ks0 wx (Below.trans S7.out (h.mono S7.out.size))
              have kq6 : ∀ wx, Below w7.heap.size w7 wx → wx.cell? ⟨b9, 1, none⟩ = some (.string (Str hi)) := fun wx h => ks1 wx (Below.trans S7.out (h.mono S7.out.size))
              have HVE7 := Lib.hid (fun wx (h : Below w7.heap.size w7 wx) => HVE.out wx (Below.trans S7.out (h.mono S7.out.size)))
              clear kn0 kn1 kn2 kn3 kn4 ks0 ks1 x0 x1 HVE HSP HVA HEM q0 q1 q2 q3 q4 q5 q6 HL0' HLL S8
              have HQ0 := Lib.hid Hbel.out
              have HF7 : Hid (Below w.heap.size w w7) := Lib.hid (HF4.out.trans (S7.out.mono HF4.out.size))
              cases hh : hasB (lo, hi) k
              all_goals
                have HHS := Lib.hid (fun wx => rhas_w lo hi k wx)
                rw [hh] at HHS hc
                clear hh
                simp only [Bool.false_eq_true, if_true, if_false] at hc
                obtain rfl := hc.out
                go_wp2_with fail
                go_region_held3 (fun wx => Below w7.heap.size w7 wx)
                  (repeat (first | with_reducible assumption | with_reducible exact HQ0.out | with_reducible refine Below.drew ?_))
                  (first
                    | (go_at_call 17; (with_reducible refine (HVE7.out _ (by repeat (first | with_reducible assumption | with_reducible exact HQ0.out | with_reducible refine Below.drew ?_))).mono ?_); rintro e u1 ⟨rfl, hG1⟩; have hU1 : Below w7.heap.size w7 u1 := keepBG (by repeat (first | with_reducible assumption | with_reducible exact HQ0.out | with_reducible refine Below.drew ?_)) hG1)
                    | (go_at_call 34; (with_reducible refine (HHS.out _).mono ?_); rintro e u2 ⟨rfl, hG2⟩; have hU2 : Below w7.heap.size w7 u2 := keepBG (by repeat (first | with_reducible assumption | with_reducible exact HQ0.out | with_reducible refine Below.drew ?_)) hG2)
                    | fail "no arm")
              all_goals (have HZ := Lib.hid hU2; clear hU1 hU2)
              all_goals go_wp2_with fail
              all_goals go_ret
              all_goals exact ⟨rfl, HF7.out.trans (HZ.out.mono HF7.out.size)⟩
  · have hkz : (60 : Int) < (k.length : Int) := by omega
    clear HX HY
    go_enter Tryz.func7, Tryz.ntmps7
    go_wp2_with fail
    rw [← HW1.out]
    refine (nsan_w _).mono ?_
    rintro e1 w1 ⟨rfl, hb1⟩
    have H1 := Lib.hid (HG.out.trans (hb1.mono HG.out.size))
    clear hb1
    go_wp2
    go_ret
    exact ⟨rfl, H1.out⟩

end Go.Proofs.YtmbfghbhajmpiaaGreat
