/-
  Walks: dropping.
-/
import Derived.Test.YtlgangcldlphnaaPI
namespace Go.Proofs.Ytlgangcldlphnaa
open Go.RowKit Go.Sort
set_option linter.unusedVariables false
set_option maxRecDepth 100000

theorem OwnF.belowB {w0 w w' : World} {base g n cap B : Nat} {P : List Sl} (h : OwnF w0 w base (.slice (some ⟨g, 0, none⟩) n cap) P) (hg : g < B) (hb : Below B w w') : OwnF w0 w' base (.slice (some ⟨g, 0, none⟩) n cap) P := by
  have hn := h.len (g := g)
  subst hn
  obtain ⟨L, h1, h4⟩ := h
  refine ⟨L, h1, h4.1, ?_⟩
  rcases h4.2 with ⟨h', _⟩ | ⟨g', cap', cur, h', h5, h6, h7⟩
  · cases h'
  · injection h' with e1 e2 e3
    injection e1 with e1
    injection e1 with e1
    subst e1 e3
    exact .inr ⟨g, cap, cur, rfl, h5, (hb.block g hg).trans h6, h7⟩
/-- A row of the call's own lies behind its base. -/
theorem own_ne {w : World} {base b : Nat} {e : TypeId} {size : Nat} {v : Value} {n : Nat} {xs : List Value} (h : w.ownsRow base e size v n xs) (hb : b < base) : v.ownBlock ≠ some b := fun e => by have := (h.lt b e).1; omega
theorem OwnF.ne {w0 w : World} {base b : Nat} {v : Value} {P : List Sl} (h : OwnF w0 w base v P) (hb : b < base) : v.ownBlock ≠ some b := by
  obtain ⟨L, h1, h4⟩ := h
  exact own_ne h4 hb
theorem below_own {w w' : World} {base : Nat} (h : Below base w w') {e : TypeId} {size : Nat} {v : Value} {n : Nat} {xs : List Value} {b2 : Nat} (ho : w.ownsRow b2 e size v n xs) (hg : ∀ g, v.ownBlock = some g → g < base) : w'.ownsRow b2 e size v n xs := by
  refine ⟨ho.1, ?_⟩
  rcases ho.2 with hn | ⟨g, cap, cur, rfl, h1, h2, rest⟩
  · exact .inl hn
  · exact .inr ⟨g, cap, cur, rfl, h1, (h.block g (hg g rfl)).trans h2, rest⟩
/-- The first of a list's rest, the last one left out. -/
theorem own_takeI {w : World} {base g n cap : Nat} {l : List Int} (h : w.ownsRow base 3 1 (.slice (some ⟨g, 0, none⟩) n cap) n (l.flatMap encI)) (i : Nat) (hi : i ≤ n) :
    w.ownsRow base 3 1 (.slice (some ⟨g, 0, none⟩) i cap) i ((l.take i).flatMap encI) := by
  have hl := h.1
  rw [flatI, List.length_map] at hl
  rcases h.2 with ⟨h', _⟩ | ⟨g', cap', cur, h', h5, h6, h7, h8, h9, h10⟩
  · cases h'
  · injection h' with e1 e2 e3
    injection e1 with e1
    injection e1 with e1
    subst e1 e3
    refine ⟨by rw [flatI, List.length_map, List.length_take]; omega, .inr ⟨g, cap, cur, rfl, h5, h6, by omega, h8, h9, ?_⟩⟩
    rw [flatI] at h10 ⊢
    rw [Nat.mul_one] at h10 ⊢
    rw [List.map_take, ← h10, List.take_take, Nat.min_eq_left hi]
theorem own_headI {w : World} {base : Nat} {v : Value} {l : List Int} (h : w.ownsRow base 3 1 v l.length (l.flatMap encI)) (hne : 0 < l.length) : ∃ g cap, v = .slice (some ⟨g, 0, none⟩) l.length cap ∧ l.length ≤ cap ∧ (cap : Int) ≤ 9223372036854775807 ∧ base ≤ g ∧ ∀ i (hi : i < l.length), w.cell? ⟨g, i, none⟩ = some (.int .i64 l[i]) := by
  rcases id h.2 with ⟨rfl, h0⟩ | ⟨g, cap, cur, rfl, hb, hg, hn, hm, hsz, htk⟩
  · omega
  · unfold maxLen at hm
    refine ⟨g, cap, rfl, hn, by omega, hb, fun i hi => ?_⟩
    rw [h.cellAt i (by omega), flatI, List.getElem?_map, List.getElem?_eq_getElem hi]; rfl
theorem slice_toI (g n cap : Nat) (k : Nat) (h : k ≤ cap) (w : World) : (Instr.slice 30 (.slice (some ⟨g, 0, none⟩) n cap) none (some (.int .i64 (k : Int))) none).run Try.prog w = .ok (.slice (some ⟨g, 0, none⟩) k cap) w := by
  have e : Try.prog.elem 30 = 3 := by kernel_rfl
  rw [run_slice_h w 30 (some ⟨g, 0, none⟩) n cap (by rw [e]; exact Try.underlying30) .i64 (k : Int) (by omega) (by omega), e, Try.sizeOf3]
  simp only [Result.andThen, sliced]
  congr 1
  have : ((k : Int)).toNat = k := by omega
  rw [this]
  simp [Addr.add]
theorem decP_set {P : List Sl} {k : Nat} : decP P (k : Int) = P.set k (decS (atP P k)) := by unfold decP; rfl
theorem runL_step {f : Nat} {P : List Sl} {W : List Int} {k : Int} (hl : W.getLast? = some k) : runL (f + 1) P W = if usedB P k then runL f (decP P k) (W.dropLast ++ decK (atP P k.toNat)) else runL f P W.dropLast := by
  rw [runL, hl]
theorem runL_nil (f : Nat) (P : List Sl) : runL f P [] = P := by cases f <;> rfl

theorem own_st8s {w : World} {base : Nat} {e : TypeId} {size : Nat} {v : Value} {n : Nat} {xs : List Value} (h : w.ownsRow base e size v n xs) (g o : Nat) (s : Sv) (hne : v.ownBlock ≠ some g) : (st8s w g o s).ownsRow base e size v n xs :=
  own_other (own_other (own_other (own_other (own_other (own_other (own_other (own_other h g _ _ hne) g _ _ hne) g _ _ hne) g _ _ hne) g _ _ hne) g _ _ hne) g _ _ hne) g _ _ hne
theorem size_st8s (w : World) (g o : Nat) (s : Sv) : (st8s w g o s).heap.size = w.heap.size := by simp [st8s, World.setCell]
set_option maxHeartbeats 8000000 in
theorem dropped_w (v u : Value) (P : List Sl) (W : List Int) (w0 w : World) (h0 : SlF w0 w v P) (hb0 : Below w0.heap.size w0 w) (hu : IsInts w u W) (hl : P.length ≤ 1000000) (hm : muP P W ≤ 1000000) (hr : ∀ i, -1000000 ≤ (atP P i).refs ∧ (atP P i).refs ≤ 1000000000) :
    Calls Try.prog 44 #[poolV v, u] w fun e w' => ∃ v', e = .returned (poolV v') ∧ OwnF w0 w' w.heap.size v' (runL (muP P W) P W) ∧ Below w.heap.size w w' := by
  have mixed := mixedA
  have h := h0.slots hb0
  have HB00 := Lib.hid hb0
  have H0 := Lib.hid h0
  clear h0 hb0
  have HI := Lib.hid hu
  have HR0 := Lib.hid hr
  have HM := Lib.hid hm
  have hWl : W.length ≤ 1000000 := by unfold muP at hm; omega
  obtain ⟨a, cap, rfl, hle, hcm, hpm⟩ := h.slice
  obtain ⟨ui, uc, rfl, hul, huc⟩ := hu.slice
  clear h hu hr hm
  have HCL := Lib.hid (fun wx (hx : Below w.heap.size w wx) => cloneSl_w (.slice a P.length cap) P w0 wx (H0.out.below hx) (HB00.out.trans (hx.mono HB00.out.size)) hl)
  have HCI := Lib.hid (fun wx (hx : Below w.heap.size w wx) => cloneInt_w (.slice ui W.length uc) W wx (HI.out.below hx) hWl)
  have HUS := Lib.hid (fun v P i wx (h : IsSlots wx v P) => used_w v P i wx h)
  obtain ⟨W1, hW1⟩ : ∃ W1, W1 = (w.alloc (.cells #[.slice a P.length cap] 29)).alloc (.cells #[.slice none 0 0] 29) := ⟨_, rfl⟩
  have HB0 : Hid (Below w.heap.size w W1) := Lib.hid (by rw [hW1]; exact (((Grown.refl w).alloc _).alloc _).below (Nat.le_refl _))
  have HP : Hid (Blk W1 w.heap.size 29 #[.slice a P.length cap]) := Lib.hid (by rw [hW1]; exact (Blk.new _ _ _).alloc _)
  have HR : Hid (Blk W1 (w.heap.size + 1) 29 #[.slice none 0 0]) := Lib.hid (by rw [hW1]; exact Blk.new' _ _ _ (by simp))
  have HS1 : Hid (W1.heap.size = w.heap.size + 2) := Lib.hid (by rw [hW1]; simp)
  have HW1 := Lib.hid hW1
  clear hW1
  go_enter Try.func44, Try.ntmps44
  go_wp2_with fail
  rw [← HW1.out]
  refine (HCL.out _ HB0.out).mono ?_
  rintro e w2 ⟨v2, rfl, hown, hb⟩
  obtain ⟨a2, cap2, rfl, hl2, hm2, hg2⟩ := hown.form
  have hP2 := HP.out.below hb HP.out.lt
  have p0 := hP2.c0 0 _ rfl
  have g0 := hP2.free 0
  have HO2 := Lib.hid (hown.setOther w.heap.size 0 (.slice a2 P.length cap2) (hown.ne (by rw [HS1.out]; omega)))
  have HP2 := Lib.hid (hP2.setCell 0 (.slice a2 P.length cap2))
  have HR2 := Lib.hid ((HR.out.below hb HR.out.lt).setCell_other (c := w.heap.size) (by omega) 0 (.slice a2 P.length cap2))
  have HB2 := Lib.hid ((Below.next HB0.out (Nat.le_refl _) hb).setCell (p := ⟨w.heap.size, 0, none⟩) (Nat.le_refl _) (.slice a2 P.length cap2))
  have HG2 := Lib.hid hg2
  clear hown hb hP2 hg2
  go_wp2_with fail
  obtain ⟨w3, hw3⟩ : ∃ w3, w3 = w2.setCell ⟨w.heap.size, 0, none⟩ (.slice a2 P.length cap2) := ⟨_, rfl⟩
  rw [← hw3] at HO2 HP2 HR2 HB2
  rw [← hw3]
  clear hw3 p0 g0
  refine (HCI.out _ HB2.out).mono ?_
  rintro e w4 ⟨v4, rfl, hown, hb⟩
  have HO4 : Hid (OwnF w0 w4 W1.heap.size (.slice a2 P.length cap2) P) := Lib.hid (HO2.out.below hb)
  have HB4 : Hid (Below (w.heap.size + 2) w3 w4) := Lib.hid (hb.mono (by have := HR2.out.lt; omega))
  have HW4 := Lib.hid hown
  have HG3 : Hid (∀ g, a2 = some ⟨g, 0, none⟩ → g < w3.heap.size ∧ w.heap.size + 2 ≤ g) := Lib.hid (by rintro g rfl; have := HO2.out.blk; exact ⟨this.2, by rw [← HS1.out]; exact this.1⟩)
  have HSZ : Hid (w3.heap.size ≤ w4.heap.size) := Lib.hid hb.size
  clear hown hb
  go_wp2_with fail
  go_loopg [5] (muP P W) (fun f s5 wr => ∃ (P' : List Sl) (W' : List Int), Hid (OwnF w0 wr W1.heap.size (.slice a2 P.length cap2) P') ∧ Hid (wr.ownsRow w3.heap.size 3 1 s5 W'.length (W'.flatMap encI)) ∧ Hid (Below (w.heap.size + 2) w3 wr) ∧ Hid (w3.heap.size ≤ wr.heap.size) ∧
    Hid (runL f P' W' = runL (muP P W) P W) ∧ Hid (muP P' W' ≤ f) ∧ Hid (f ≤ 1000000) ∧ Hid (∀ i, -2000000 + (f : Int) ≤ (atP P' i).refs ∧ (atP P' i).refs ≤ 1000000000) ∧ Hid (P'.length = P.length))
  case atStart =>
    exact ⟨P, W, HO4, HW4, HB4, HSZ, Lib.hid rfl, Lib.hid (Nat.le_refl _), HM, Lib.hid (fun i => by have := HR0.out i; have := HM.out; omega), Lib.hid rfl⟩
  case round =>
    clear HO4 HW4 HB4 HSZ HCL HCI
    obtain ⟨P', W', HO, HW, HB, HSZ, HE, HMU, HF, HRF, HLN⟩ := hrel
    by_cases hne : 0 < W'.length
    · obtain ⟨gi, ci, rfl, hci, hcm2, hbi, hcell⟩ := own_headI HW.out hne
      have hb1 := HMU.out
      have hb2 := HF.out
      have hwl : W'.length ≤ gk := by unfold muP at hb1; omega
      obtain ⟨f, rfl⟩ : ∃ f, gk = f + 1 := ⟨gk - 1, by omega⟩
      obtain ⟨m, hm⟩ : ∃ m, W'.length = m + 1 := ⟨W'.length - 1, by omega⟩
      have hc := hcell m (by omega)
      have hlast : W'.getLast? = some W'[m] := by
        rw [List.getLast?_eq_getElem?, show W'.length - 1 = m by omega]
        exact List.getElem?_eq_getElem (by omega)
      have HDL : Hid (W'.dropLast = W'.take m) := Lib.hid (by rw [List.dropLast_eq_take, hm]; rfl)
      have HTK := Lib.hid (own_takeI HW.out m (by omega))
      have HTL : Hid ((W'.take m).length = m) := Lib.hid (by rw [List.length_take]; omega)
      have HSL : Hid (IsSlots wr (.slice a2 P.length cap2) P') := Lib.hid ((HO.out.own (HB00.out.trans ((HB2.out.trans (HB.out.mono (by omega))).mono HB00.out.size))).slots)
      have hlp := HLN.out
      obtain ⟨kid, hkid⟩ : ∃ kid, W'[m] = kid := ⟨_, rfl⟩
      rw [hkid] at hlast hc
      have HRL := Lib.hid (runL_step (f := f) (P := P') hlast)
      rw [HDL.out] at HRL
      have HMW : Hid (W'.length = (W'.take m).length + 1) := Lib.hid (by rw [HTL.out, hm])
      obtain ⟨n, hn⟩ : ∃ n, W'.length = n := ⟨_, rfl⟩
      have HN := Lib.hid hn
      rw [hn] at hm hci hne
      rw [hn]
      have hnz : (n : Int) - 1 = (m : Int) := by omega
      have hn0 : (0 : Int) < (n : Int) := by omega
      have hmz : (m : Int) < (n : Int) := by omega
      have hmc : (n : Int) ≤ 9223372036854775807 := by omega
      have hmw : IntKind.i64.wrap (m : Int) = (m : Int) := IntWalk.i64_in _ (by omega)
      have hsl := fun wx => slice_toI gi n ci m (by omega) wx
      have hP2 := HP2.out.below HB.out (by omega)
      have p0 : wr.cell? ⟨w.heap.size, 0, none⟩ = some (.slice a2 P.length cap2) := hP2.c0 0 _ rfl
      have HP3 := Lib.hid hP2
      have HBw : Hid (Below w.heap.size w wr) := Lib.hid (HB2.out.trans (HB.out.mono (by omega)))
      clear hm hn hkid hlast hP2 hcell hb1 hb2 hwl
      by_cases hu : usedB P' kid = true
      · obtain ⟨u0, u1⟩ := usedB_lt hu
        obtain ⟨k, rfl⟩ : ∃ k : Nat, kid = k := ⟨kid.toNat, by omega⟩
        obtain ⟨g, rfl⟩ := HG2.out (by omega)
        obtain ⟨hg3, hg4⟩ := HG3.out g rfl
        have hk : k < P'.length := by omega
        have hkz : (k : Int) < (P.length : Int) := by omega
        have HU := Lib.hid (HUS.out _ P' (k : Int) wr HSL.out)
        rw [hu] at HU
        have HRL2 : Hid (runL (f + 1) P' W' = runL f (decP P' (k : Int)) (W'.take m ++ decK (atP P' k))) := Lib.hid (by rw [HRL.out, if_pos hu]; rfl)
        have HMD := Lib.hid (mu_dec (V := W'.take m) hu)
        have Hu := Lib.hid hu
        clear hu u0 u1
        go_wp2_with fail
        refine HU.out.mono ?_
        rintro e w5 ⟨rfl, hb5⟩
        have hO5 := HO.out.below hb5
        obtain ⟨s, hs, hv⟩ := hO5.at k hk
        obtain ⟨c0, c1, c2, c3, c4, c5, c6, c7⟩ := hv
        have f2 := hO5.free (k * 8 + 2)
        have q0 : w5.cell? ⟨w.heap.size, 0, none⟩ = some (.slice (some ⟨g, 0, none⟩) P.length cap2) := (HP3.out.below hb5 HP3.out.lt).c0 0 _ rfl
        obtain ⟨r1, r2⟩ := HRF.out k
        rw [← hs.refs] at r1 r2
        have HS := Lib.hid hs
        have HB5 := Lib.hid hb5
        have HTK5 := Lib.hid (below_own hb5 HTK.out (fun g' e => by injection e with e; subst e; exact (HTK.out.lt _ rfl).2))
        clear hs hb5 hO5 c0 c1 c3 c4 c6 c7 p0
        have hfm := HF.out
        by_cases hz : s.refs - 1 = 0
        · have hzb : ((s.refs - 1) == (0 : Int)) = true := by simpa using hz
          have HDS : Hid (decP P' (k : Int) = P'.set k zSl) := Lib.hid (by rw [decP_set, decS, ← HS.out.refs, if_pos hz])
          have HDK : Hid (decK (atP P' k) = (atP P' k).node.kids) := Lib.hid (by rw [decK, ← HS.out.refs, if_pos hz])
          have HKL : Hid ((W'.take m).length + (atP P' k).node.kids.length ≤ 1000000) := Lib.hid (by
            have h1 := HMU.out
            have h2 := HMD.out
            have h3 := HMW.out
            rw [show decK (atP P' ((k : Int)).toNat) = (atP P' k).node.kids from HDK.out] at h2
            unfold muP at *
            rw [List.length_append] at h2
            omega)
          have hB5 : Below (w.heap.size + 2) w3 w5 := HB.out.trans (HB5.out.mono (by have := HP3.out.lt; have := HR2.out.lt; have := HSZ.out; omega))
          have HB7 : Hid (Below (w.heap.size + 2) w3 (w5.setCell ⟨g, k * 8 + 2, none⟩ (.int .i64 (s.refs - 1)))) := Lib.hid (hB5.setCell (by exact hg4) _)
          have HO7 := Lib.hid ((HO.out.below HB5.out).refs k hk (s.refs - 1))
          have HW7 : Hid ((w5.setCell ⟨g, k * 8 + 2, none⟩ (.int .i64 (s.refs - 1))).ownsRow w3.heap.size 3 1 (.slice (some ⟨gi, 0, none⟩) m ci) (W'.take m).length ((W'.take m).flatMap encI)) := Lib.hid (by rw [HTL.out]; exact own_other HTK5.out g _ _ (own_ne HTK5.out hg3))
          have HK7 : Hid (IsInts (w5.setCell ⟨g, k * 8 + 2, none⟩ (.int .i64 (s.refs - 1))) (slv s.c) (atP P' k).node.kids) := Lib.hid (HS.out.kids.below (HB00.out.trans ((HB2.out.trans (HB7.out.mono (by omega))).mono HB00.out.size)))
          have HZ7 : Hid (w3.heap.size ≤ (w5.setCell ⟨g, k * 8 + 2, none⟩ (.int .i64 (s.refs - 1))).heap.size) := Lib.hid (by simp; exact Nat.le_trans HSZ.out HB5.out.size)
          clear hz hB5
          go_upto_region 12 with (at_builtin; refine append_ints rfl _ _ rfl w3.heap.size _ (W'.take m) rfl HW7.out _ (atP P' k).node.kids rfl HK7.out (Nat.le_trans HKL.out (by decide)) HZ7.out ?_; intro v6 w6 hown hb)
          have hO6 := HO7.out.belowB hg3 hb
          obtain ⟨s6, -, hv6⟩ := hO6.at k (by rw [List.length_set]; exact hk)
          obtain ⟨c0, c1, c2, c3, c4, c5, c6, c7⟩ := hv6
          have f0 := hO6.free (k * 8)
          have f1 := hO6.free (k * 8 + 1)
          have f2 := hO6.free (k * 8 + 2)
          have f3 := hO6.free (k * 8 + 3)
          have f4 := hO6.free (k * 8 + 4)
          have f5 := hO6.free (k * 8 + 5)
          have f6 := hO6.free (k * 8 + 6)
          have f7 := hO6.free (k * 8 + 7)
          have HO6 := Lib.hid hO6
          have HW6 := Lib.hid hown
          have HB6 : Hid (Below (w.heap.size + 2) w3 w6) := Lib.hid (HB7.out.trans (hb.mono (by omega)))
          have HZ6 : Hid (w3.heap.size ≤ w6.heap.size) := Lib.hid (Nat.le_trans HZ7.out hb.size)
          clear hO6 hown hb
          go_wp2
          go_roundg f
          case measure => omega
          case rel =>
            refine ⟨decP P' (k : Int), W'.take m ++ decK (atP P' k), Lib.hid ?_, Lib.hid ?_, Lib.hid (below_st8s HB6.out g (k * 8) hg4 zSv), Lib.hid (by show w3.heap.size ≤ (st8s w6 g (k * 8) zSv).heap.size; rw [size_st8s]; exact HZ6.out), Lib.hid ?_, Lib.hid ?_, Lib.hid (by omega), Lib.hid (fun i => ?_), Lib.hid (by rw [decP_len]; exact HLN.out)⟩
            · have := HO6.out.slot k (by rw [List.length_set]; exact hk) (isSl_zero w0)
              rw [List.set_set] at this
              rw [HDS.out]
              exact this
            · rw [HDK.out]
              exact own_st8s HW6.out g (k * 8) zSv (own_ne HW6.out hg3)
            · rw [← HE.out, HRL2.out]
            · have h1 := HMU.out
              have h2 := HMD.out
              have h3 := HMW.out
              rw [show decK (atP P' ((k : Int)).toNat) = decK (atP P' k) from rfl] at h2
              rw [h2]; unfold muP at *; omega
            · rw [HDS.out, atP_set i hk]
              split
              · show -2000000 + (f : Int) ≤ 0 ∧ (0 : Int) ≤ 1000000000
                omega
              · have := HRF.out i; omega
        · have hzb : ((s.refs - 1) == (0 : Int)) = false := by simpa using hz
          have HDS : Hid (decP P' (k : Int) = P'.set k { atP P' k with refs := s.refs - 1 }) := Lib.hid (by rw [decP_set, decS, ← HS.out.refs, if_neg hz])
          have HDK : Hid (decK (atP P' k) = []) := Lib.hid (by rw [decK, ← HS.out.refs, if_neg hz])
          clear hz
          go_wp2
          go_roundg f
          case measure => omega
          case rel =>
            have hB5 : Below (w.heap.size + 2) w3 w5 := HB.out.trans (HB5.out.mono (by have := HP3.out.lt; have := HR2.out.lt; have := HSZ.out; omega))
            refine ⟨decP P' (k : Int), W'.take m, Lib.hid (by rw [HDS.out]; exact (HO.out.below HB5.out).refs k hk (s.refs - 1)), Lib.hid ?_, Lib.hid (hB5.setCell (by exact hg4) _), Lib.hid (by simp; exact Nat.le_trans HSZ.out HB5.out.size), Lib.hid ?_, Lib.hid ?_, Lib.hid (by omega), Lib.hid (fun i => ?_), Lib.hid (by rw [decP_len]; exact HLN.out)⟩
            · rw [HTL.out]
              exact own_other HTK5.out g _ _ (own_ne HTK5.out hg3)
            · rw [← HE.out, HRL2.out, HDK.out, List.append_nil]
            · have h1 := HMU.out
              have h2 := HMD.out
              have h3 := HMW.out
              rw [show decK (atP P' ((k : Int)).toNat) = [] from HDK.out, List.append_nil] at h2
              rw [h2]; unfold muP at *; omega
            · rw [HDS.out, atP_set i hk]
              split
              · show -2000000 + (f : Int) ≤ s.refs - 1 ∧ s.refs - 1 ≤ 1000000000
                omega
              · have := HRF.out i; omega
      · have hu : usedB P' kid = false := by simpa using hu
        have HU := Lib.hid (HUS.out _ P' kid wr HSL.out)
        rw [hu] at HU
        have HRL2 : Hid (runL (f + 1) P' W' = runL f P' (W'.take m)) := Lib.hid (by rw [HRL.out, if_neg (by rw [hu]; simp)])
        clear hu
        go_wp2_with fail
        refine HU.out.mono ?_
        rintro e w5 ⟨rfl, hb5⟩
        have HB5 := Lib.hid hb5
        clear hb5 p0
        go_wp2
        go_roundg f
        case measure => omega
        case rel =>
          refine ⟨P', W'.take m, Lib.hid (HO.out.below HB5.out), Lib.hid ?_, Lib.hid (HB.out.trans (HB5.out.mono (by have := HP3.out.lt; have := HR2.out.lt; have := HSZ.out; omega))), Lib.hid (Nat.le_trans HSZ.out HB5.out.size), Lib.hid (HRL2.out.symm.trans HE.out), Lib.hid (by have := HMU.out; have := HMW.out; unfold muP at *; omega), Lib.hid (by have := HF.out; omega), Lib.hid (fun i => by have := HRF.out i; omega), HLN⟩
          rw [HTL.out]
          exact below_own HB5.out HTK.out (fun g' e => by injection e with e; subst e; exact (HTK.out.lt _ rfl).2)
    · have hw0 : W' = [] := List.length_eq_zero_iff.1 (by omega)
      subst hw0
      obtain ⟨ai, ci, rfl, -, -⟩ := (IsInts.owned HW.out).slice
      have HRES : Hid (P' = runL (muP P W) P W) := Lib.hid (by rw [← HE.out, runL_nil])
      have hP2 := HP2.out.below HB.out (by omega)
      have p0 : wr.cell? ⟨w.heap.size, 0, none⟩ = some (.slice a2 P.length cap2) := hP2.c0 0 _ rfl
      have hR2 := HR2.out.below HB.out (by omega)
      have r0 := hR2.c0 0 _ rfl
      have g0 := hR2.free 0
      have HR3 := Lib.hid hR2
      clear hP2 hR2 hne
      simp only [List.length_nil]
      go_wp2
      have z0 := (HR3.out.setCell 0 (.slice a2 P.length cap2)).c0 0 _ rfl
      refine bodyPost_ret (v := poolV (.slice a2 P.length cap2)) (by simp [results, Try.results44, go_sem, z0]) rfl ?_
      have hB := (HB2.out.trans (HB.out.mono (by omega))).setCell (p := ⟨w.heap.size + 1, 0, none⟩) (by simp) (.slice a2 P.length cap2)
      refine ⟨_, rfl, ?_, hB⟩
      rw [← HRES.out]
      obtain ⟨L, hL, hrow⟩ := HO.out.setOther (w.heap.size + 1) 0 (.slice a2 P.length cap2) (HO.out.ne (by rw [HS1.out]; omega))
      exact ⟨L, hL, owns_lower hrow (by rw [HS1.out]; omega)⟩
/-- Drop: the pool and the error. -/
def dropP (P : List Sl) (i : Int) : List Sl × Int := if usedB P i then (runL (muP P [i]) P [i], 0) else (P, 110)
set_option maxHeartbeats 2000000 in
theorem drop_w (v : Value) (P : List Sl) (i : Int) (w0 w : World) (h0 : SlF w0 w v P) (hb0 : Below w0.heap.size w0 w) (hl : P.length ≤ 1000000) (hm : muP P [i] ≤ 1000000) (hr : ∀ i, -1000000 ≤ (atP P i).refs ∧ (atP P i).refs ≤ 1000000000) :
    Calls Try.prog 28 #[poolV v, .int .i64 i] w fun e w' => ∃ v', e = .returned (.tuple #[poolV v', .int .i64 (dropP P i).2]) ∧ SlOut w0 w w' v v' (dropP P i).1 := by
  have mixed := mixedA
  have h := h0.slots hb0
  have H0 := Lib.hid h0
  have HB00 := Lib.hid hb0
  have HU := Lib.hid (fun wx (hx : Below w.heap.size w wx) => used_w v P i wx (h.below hx))
  have HB0 : Hid (Below w.heap.size w ((w.alloc (.cells #[v] 29)).alloc (.cells #[.slice none 0 0] 29))) := Lib.hid ((below_box _).trans ((below_box _).mono (by simp)))
  have HN : Hid (Blk ((w.alloc (.cells #[v] 29)).alloc (.cells #[.slice none 0 0] 29)) (w.heap.size + 1) 29 #[.slice none 0 0]) := Lib.hid (Blk.new' _ _ _ (by simp))
  have HP : Hid (Blk ((w.alloc (.cells #[v] 29)).alloc (.cells #[.slice none 0 0] 29)) w.heap.size 29 #[v]) := Lib.hid ((Blk.new _ _ _).alloc _)
  have H := Lib.hid h
  have HD := Lib.hid (fun wx (hx : Below w.heap.size w wx) (n : Nat) (hn : n = wx.heap.size) => dropped_w v (.slice (some ⟨n, 0, none⟩) 1 1) P [i] w0 (wx.alloc (.cells #[.int .i64 i] 3)) (h0.below (hx.trans ((below_box _).mono hx.size))) (hb0.trans ((hx.trans ((below_box _).mono hx.size)).mono hb0.size)) (isInts_lit [i] hn (by simp) (by simp)) hl hm hr)
  obtain ⟨a, cap, rfl, -, -, -⟩ := h.slice
  clear h h0 hb0 hm hr
  by_cases hu : usedB P i = true
  · have HG : Hid (dropP P i = (runL (muP P [i]) P [i], 0)) := Lib.hid (by unfold dropP; rw [if_pos hu])
    rw [hu] at HU
    clear hu
    generalize runL (muP P [i]) P [i] = R at *
    go_enter Try.func28, Try.ntmps28
    go_wp2_with fail
    refine (HU.out _ HB0.out).mono ?_
    rintro e w1 ⟨rfl, hb⟩
    have Hb : Hid (Below w.heap.size w w1) := Lib.hid (Below.next HB0.out (Nat.le_refl _) hb)
    have p0 : w1.cell? ⟨w.heap.size, 0, none⟩ = some (.slice a P.length cap) := (HP.out.below hb HP.out.lt).c0 0 _ rfl
    have HN1 := Lib.hid (HN.out.below hb HN.out.lt)
    clear hb
    go_wp2_with fail
    refine (HD.out _ Hb.out _ rfl).mono ?_
    rintro e w2 ⟨v2, rfl, hs, hb⟩
    have hN2 := (HN1.out.alloc (.cells #[.int .i64 i] 3)).below hb (HN1.out.alloc _).lt
    obtain ⟨a2, cap2, rfl, -, -, -⟩ := hs.form
    have n0 := hN2.c0 0 _ rfl
    have g0 := hN2.free 0
    have HN2 := Lib.hid hN2
    have HS2 := Lib.hid hs
    have Hb2 : Hid (Below w.heap.size w w2) := Lib.hid (Hb.out.trans (((below_box _).trans (hb.mono (by simp))).mono Hb.out.size))
    have HBX := Lib.hid hb
    clear hN2 hs hb p0
    go_wp2
    have z0 := (HN2.out.setCell 0 (.slice a2 R.length cap2)).c0 0 _ rfl
    refine bodyPost_ret (v := .tuple #[poolV (.slice a2 R.length cap2), .int .i64 0]) (by simp [results, Try.results28, go_sem, z0]) rfl ?_
    rw [HG.out]
    have hlt := HN1.out.lt
    have hB := Hb2.out.setCell (p := ⟨w.heap.size + 1, 0, none⟩) (by simp) (.slice a2 R.length cap2)
    have hown := HS2.out.setOther (w.heap.size + 1) 0 (.slice a2 R.length cap2) (HS2.out.ne (by simp; omega))
    exact ⟨_, rfl, hown.slF, fun b hb => .inr (by have := (HS2.out.blkOf b hb).1; have := Hb.out.size; simp at *; omega), hB⟩
  · have hu : usedB P i = false := by simpa using hu
    have HG : Hid (dropP P i = (P, 110)) := Lib.hid (by unfold dropP; rw [hu]; rfl)
    rw [hu] at HU
    clear hu
    go_enter Try.func28, Try.ntmps28
    go_wp2_with fail
    refine (HU.out _ HB0.out).mono ?_
    rintro e w1 ⟨rfl, hb⟩
    have Hb : Hid (Below w.heap.size w w1) := Lib.hid (Below.next HB0.out (Nat.le_refl _) hb)
    have hN1 := HN.out.below hb HN.out.lt
    have p0 : w1.cell? ⟨w.heap.size, 0, none⟩ = some (.slice a P.length cap) := (HP.out.below hb HP.out.lt).c0 0 _ rfl
    have n0 := hN1.c0 0 _ rfl
    have g0 := hN1.free 0
    have HN1 := Lib.hid hN1
    clear hb hN1
    go_wp2
    have z0 := (HN1.out.setCell 0 (.slice a P.length cap)).c0 0 _ rfl
    refine bodyPost_ret (v := .tuple #[poolV (.slice a P.length cap), .int .i64 110]) (by simp [results, Try.results28, go_sem, z0]) rfl ?_
    rw [HG.out]
    have hB := Hb.out.setCell (p := ⟨w.heap.size + 1, 0, none⟩) (by simp) (.slice a P.length cap)
    exact ⟨_, rfl, H0.out.below hB, fun b hb => .inl rfl, hB⟩

end Go.Proofs.Ytlgangcldlphnaa
