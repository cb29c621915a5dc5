/-
  Walks: reference 10's Valid.
-/
import Derived.Test.YtmbfghbhajmpiaaGreatYJA
import Derived.Deep.RegionHeld3
namespace Go.Proofs.YtmbfghbhajmpiaaGreat
open Go.RowKit Go.Sort
set_option linter.unusedVariables false

theorem valid_kindK {m : Ms} (h : validM m = true) : OneToSix m := by
  unfold OneToSix
  unfold validM fitsB at h
  rw [Bool.and_eq_true] at h
  have h := h.1
  by_cases h1 : m.kind = 1
  · omega
  by_cases h2 : m.kind = 2
  · omega
  by_cases h3 : m.kind = 3
  · omega
  by_cases h4 : m.kind = 4
  · omega
  by_cases h5 : m.kind = 5
  · omega
  by_cases h6 : m.kind = 6
  · omega
  simp [h1, h2, h3, h4, h5, h6] at h
theorem inZ_kid (k : Int) : inZ 0 4095 k = kidB k := by
  unfold inZ kidB
  rw [Bool.eq_iff_iff]
  simp only [Bool.and_eq_true, decide_eq_true_eq]
  omega
set_option maxRecDepth 100000 in
set_option maxHeartbeats 8000000 in
theorem valid10_w (v : Value) (n : Nd) (s : Sp) (w : World) (h : IsNode w v n) (hl : n.pairs.length ≤ 100000000000)
    (hm : ∀ m ∈ n.buf, ∀ wx, Calls Tryz.prog 29 #[msgV m] wx fun e w' => e = .returned (.bool (validM m)) ∧ Below wx.heap.size wx w') :
    Calls Tryz.prog 18 #[v, .agg #[.string (Str s.1), .string (Str s.2)]] w fun e w' => e = .returned (.bool (validN n s)) ∧ Below w.heap.size w w' := by
  have mixed := mixedA
  have HLF := Lib.hid (fun wx (hx : Grown w wx) => leaf10_w v n s wx (h.below (hx.below (Nat.le_refl _))) hl)
  obtain ⟨a, b, c, d, e, rfl, hP, hI, hK, hS, hB⟩ := h
  obtain ⟨np, ni, nk, ns, nb⟩ := n
  have HF : Hid (innerB ⟨np, ni, nk, ns, nb⟩ s = (np.isEmpty && (decide (ns.length = nk.length) && (decide (ni.length + 1 = nk.length) && (nk.all kidB && (pivB s s.1 ni && (ns.all sumB && nb.all (bufB s)))))))) := Lib.hid rfl
  have HVN : Hid (validN ⟨np, ni, nk, ns, nb⟩ s = if nk = [] then leafB ⟨np, ni, nk, ns, nb⟩ s else innerB ⟨np, ni, nk, ns, nb⟩ s) := Lib.hid rfl
  generalize leafB ⟨np, ni, nk, ns, nb⟩ s = RL at *
  generalize innerB ⟨np, ni, nk, ns, nb⟩ s = RI at *
  generalize validN ⟨np, ni, nk, ns, nb⟩ s = R at *
  dsimp only at *
  have HP := Lib.hid hP
  have HI := Lib.hid hI
  have HK := Lib.hid hK
  have HS := Lib.hid hS
  have HB := Lib.hid hB
  have HMV := Lib.hid hm
  clear hm
  obtain ⟨pa, ca, rfl, hla, hma, -, -⟩ := hP
  obtain ⟨pb, cb, rfl, hlb, hmb, -⟩ := hI
  obtain ⟨pc, cc, rfl, hlc, hmc, -⟩ := hK
  obtain ⟨pd, cd, rfl, hld, hmd, -⟩ := hS
  obtain ⟨pe, ce, rfl, hle, hme, -⟩ := hB
  unfold maxLen at hma hmb hmc hmd hme
  obtain ⟨W1, hW1⟩ : ∃ W1, W1 = (w.alloc (.cells #[.slice pa np.length ca, .slice pb ni.length cb, .slice pc nk.length cc, .slice pd ns.length cd, .slice pe nb.length ce] 34)).alloc (.cells #[.string (Str s.1), .string (Str s.2)] 41) := ⟨_, rfl⟩
  have HM : Hid (Blk W1 w.heap.size 34 #[.slice pa np.length ca, .slice pb ni.length cb, .slice pc nk.length cc, .slice pd ns.length cd, .slice pe nb.length ce]) := Lib.hid (by rw [hW1]; exact (Blk.new _ _ _).alloc _)
  have HC : Hid (Blk W1 (w.heap.size + 1) 41 #[.string (Str s.1), .string (Str s.2)]) := Lib.hid (by rw [hW1]; exact Blk.new' _ _ _ (by simp))
  have HG : Hid (Grown w W1) := Lib.hid (by rw [hW1]; exact ((Grown.refl w).alloc _).alloc _)
  have n0 := HM.out.c0 0 _ rfl
  have n1 := HM.out.c0 1 _ rfl
  have n2 := HM.out.c0 2 _ rfl
  have n3 := HM.out.c0 3 _ rfl
  have n4 := HM.out.c0 4 _ rfl
  have s0 := HC.out.c0 0 _ rfl
  have s1 := HC.out.c0 1 _ rfl
  have HW1 := Lib.hid hW1
  clear hW1
  by_cases hk : nk = []
  · have HR : Hid (R = RL) := Lib.hid (by rw [HVN.out, if_pos hk])
    have hkz : nk.length = 0 := by rw [hk]; rfl
    rw [hkz] at HM HW1 HLF n2 hlc
    rw [hkz]
    clear hk HVN HF hkz
    go_enter Tryz.func18, Tryz.ntmps18
    go_wp2_with fail
    rw [← HW1.out]
    refine (HLF.out _ HG.out).mono ?_
    rintro e w2 ⟨rfl, hg2⟩
    have Hg2 := Lib.hid hg2
    clear hg2
    go_wp2
    go_ret
    exact ⟨ret_bool (by rw [HR.out]), (HG.out.trans Hg2.out).below (Nat.le_refl _)⟩
  have hkp := len_pos hk
  have hkpn := len_posN hk
  have hkd : ((nk.length : Int) == 0) = false := by rw [beq_eq_false_iff_ne]; omega
  have HRI : Hid (R = RI) := Lib.hid (by rw [HVN.out, if_neg hk])
  clear hk HVN HLF
  by_cases h1 : np = []
  rotate_left
  · have hp := len_pos h1
    have hpn := len_posN h1
    have HR : Hid (R = false) := Lib.hid (by rw [HRI.out, HF.out, ne_isEmpty' h1]; rfl)
    clear h1 HF HRI
    go_enter Tryz.func18, Tryz.ntmps18
    go_wp2_with fail
    go_ret
    exact ⟨ret_bool (by rw [HR.out]), by have hh := HG.out.below (B := w.heap.size) (Nat.le_refl _); rw [HW1.out] at hh; exact hh⟩
  subst h1
  simp only [List.length_nil] at HM HW1 n0 ⊢
  by_cases h2 : ns.length = nk.length
  rotate_left
  · have h2d : ((ns.length : Int) == (nk.length : Int)) = false := by rw [beq_eq_false_iff_ne]; omega
    have h2z : ¬ (ns.length : Int) = (nk.length : Int) := by omega
    have HR : Hid (R = false) := Lib.hid (by rw [HRI.out, HF.out, decide_eq_false h2]; simp)
    clear HF HRI
    go_enter Tryz.func18, Tryz.ntmps18
    go_wp2_with fail
    go_ret
    exact ⟨ret_bool (by rw [HR.out]), by have hh := HG.out.below (B := w.heap.size) (Nat.le_refl _); rw [HW1.out] at hh; exact hh⟩
  obtain ⟨KL, hKL⟩ : ∃ KL, KL = nk.length := ⟨_, rfl⟩
  by_cases h3 : ni.length + 1 = nk.length
  rotate_left
  · have h3d : ((ni.length : Int) == (nk.length : Int) - 1) = false := by rw [beq_eq_false_iff_ne]; omega
    have h3z : ¬ (ni.length : Int) = (nk.length : Int) - 1 := by omega
    have h3w : IntKind.i64.wrap ((nk.length : Int) - 1) = (nk.length : Int) - 1 := by rw [IntKind.wrap_i64]; omega
    have h3v : wrap64 ((nk.length : Int) - 1) = (nk.length : Int) - 1 := by unfold wrap64; omega
    have HR : Hid (R = false) := Lib.hid (by rw [HRI.out, HF.out, decide_eq_false h3]; simp)
    rw [h2] at HM HW1 n3
    rw [h2]
    clear HF HRI h2 h3
    go_enter Tryz.func18, Tryz.ntmps18
    go_wp2_with fail
    go_ret
    exact ⟨ret_bool (by rw [HR.out]), by have hh := HG.out.below (B := w.heap.size) (Nat.le_refl _); rw [HW1.out] at hh; exact hh⟩
  have h3w : IntKind.i64.wrap ((nk.length : Int) - 1) = (ni.length : Int) := by rw [IntKind.wrap_i64]; omega
  have h3v : wrap64 ((nk.length : Int) - 1) = (ni.length : Int) := by unfold wrap64; omega
  have h3u : (nk.length : Int) - 1 = (ni.length : Int) := by omega
  have hls0 : ∀ k, k < nk.length → k < ns.length := fun k h => by omega
  have HPV := Lib.hid (fun wx (hx : Grown W1 wx) => pivots10_w (.slice pb ni.length cb) ni s.1 s.2 wx (HI.out.below ((HG.out.trans hx).below (Nat.le_refl _))))
  rw [show pivB (s.1, s.2) s.1 ni = pivB s s.1 ni from rfl] at HPV
  have HRJ : Hid (R = (pivB s s.1 ni && (nk.all kidB && (ns.all sumB && nb.all (bufB s))))) := Lib.hid (by rw [HRI.out, HF.out, decide_eq_true h2, decide_eq_true h3]; simp only [List.isEmpty_nil, Bool.true_and]; rw [← Bool.and_assoc, Bool.and_comm (nk.all kidB), Bool.and_assoc])
  have HL2 := Lib.hid h2
  rw [h2] at HM HW1 n3 HS hld
  rw [h2]
  clear HF HRI h2 h3 hKL
  cases hpv : pivB s s.1 ni with
  | false =>
    rw [hpv] at HPV HRJ
    have HR : Hid (R = false) := Lib.hid (by rw [HRJ.out]; rfl)
    clear hpv HRJ
    go_enter Tryz.func18, Tryz.ntmps18
    go_wp2_with fail
    rw [← HW1.out]
    refine (HPV.out _ (Grown.refl _)).mono ?_
    rintro e w2 ⟨rfl, hb2⟩
    have Hb2 := Lib.hid hb2
    clear hb2
    go_wp2
    go_ret
    exact ⟨ret_bool (by rw [HR.out]), (HG.out.below (Nat.le_refl _)).trans (Hb2.out.mono (HG.out.below (Nat.le_refl _)).size)⟩
  | true =>
    rw [hpv] at HPV HRJ
    have HR : Hid (R = (nk.all kidB && (ns.all sumB && nb.all (bufB s)))) := Lib.hid (by rw [HRJ.out]; rfl)
    clear hpv HRJ
    go_enter Tryz.func18, Tryz.ntmps18
    go_wp2_with fail
    rw [← HW1.out]
    refine (HPV.out _ (Grown.refl _)).mono ?_
    rintro e w2 ⟨rfl, hb2⟩
    have BL1 := Lib.hid ((HG.out.below (Nat.le_refl _)).trans (hb2.mono (HG.out.below (Nat.le_refl _)).size))
    have HM3 := Lib.hid (HM.out.below hb2 HM.out.lt)
    have HC3 := Lib.hid (HC.out.below hb2 HC.out.lt)
    have HKx := Lib.hid (HK.out.below BL1.out)
    have HSx := Lib.hid (HS.out.below BL1.out)
    have HBx := Lib.hid (HB.out.below BL1.out)
    clear hb2 HM HC n0 n1 n2 n3 n4 s0 s1 HW1 HPV HG HK HS HB HP HI
    have n2 := HM3.out.c0 2 _ rfl
    have n3 := HM3.out.c0 3 _ rfl
    have n4 := HM3.out.c0 4 _ rfl
    go_wp2_with fail
    go_loopw [5] (fun i wr => ∃ k : Nat, k ≤ nk.length ∧ i = .int .i64 k ∧ Grown w2 wr ∧ Hid ((nk.take k).all kidB = true ∧ (ns.take k).all sumB = true)) (fun i _ => nk.length - (intOf i).toNat)
    case atStart => exact ⟨0, Nat.zero_le _, rfl, Grown.refl _, Lib.hid ⟨rfl, rfl⟩⟩
    case round =>
      obtain ⟨k, hk, rfl, hg, hall⟩ := hrel
      have Hg := Lib.hid hg
      have m2 := (hg.blk HM3.out).c0 2 _ rfl
      have m3 := (hg.blk HM3.out).c0 3 _ rfl
      have m4 := (hg.blk HM3.out).c0 4 _ rfl
      clear hg n2 n3 n4
      by_cases hlt : k < nk.length
      · have hls := hls0 k hlt
        have hltz : (k : Int) < (nk.length : Int) := by omega
        obtain ⟨bk, ok, cap', he, hbk3, hlz, yk⟩ := at_int HKx.out k hlt
        injection he with he1 he2 he3
        subst he1 he3
        clear he2
        obtain ⟨bs, os, cap'', he, hbs3, hlz', ysum⟩ := at_sum HSx.out k hls
        injection he with he1 he2 he3
        subst he1 he3
        clear he2
        have HTK := Lib.hid (show (nk.take (k + 1)).all kidB = ((nk.take k).all kidB && kidB nk[k]) by rw [List.take_succ_eq_append_getElem hlt, List.all_append]; simp)
        have HTS := Lib.hid (show (ns.take (k + 1)).all sumB = ((ns.take k).all sumB && sumB ns[k]) by rw [List.take_succ_eq_append_getElem hls, List.all_append]; simp)
        have HNK := Lib.hid (fun (h : kidB nk[k] = false) => (show R = false by rw [HR.out, List.all_eq_false.2 ⟨nk[k], List.getElem_mem hlt, by rw [h]; simp⟩]; rfl))
        have HNS := Lib.hid (fun (h : sumB ns[k] = false) => (show R = false by rw [HR.out, List.all_eq_false.2 ⟨ns[k], List.getElem_mem hls, by rw [h]; simp⟩]; simp))
        generalize nk[k] = x at *
        generalize ns[k] = y at *
        obtain ⟨⟨xa, xb⟩, xc, xd⟩ := y
        obtain ⟨y0, y1, y2, y3⟩ := ysum
        dsimp only at y0 y1 y2 y3
        have e0 := ((Hg.out.below (Nat.le_refl _)).cell (p := ⟨bk, ok + k, none⟩) hbk3).trans yk
        have HIK := Lib.hid (fun wx => r10in_w x 0 4095 wx)
        rw [inZ_kid] at HIK
        have HB1 := Lib.hid (fun wx => r10bound_w xa xb wx)
        have HB2 := Lib.hid (fun wx => r10bound_w xc xd wx)
        have HSB : Hid (sumB ((xa, xb), xc, xd) = (rangeB (xa, xb) && rangeB (xc, xd))) := Lib.hid rfl
        rw [HSB.out] at HTS HNS
        clear HSB yk
        generalize kidB x = q0 at *
        generalize rangeB (xa, xb) = q1 at *
        generalize rangeB (xc, xd) = q2 at *
        cases q0 with
        | false =>
          have Hr : Hid (R = false) := Lib.hid (HNK.out rfl)
          clear HTK HTS HNK HNS hall
          go_wp2_with (first
            | (go_at_call 66; refine (HIK.out _).mono ?_; rintro e w4 ⟨rfl, hg4⟩; have G4 := Lib.hid (Hg.out.trans hg4); have N3 := (G4.out.blk HM3.out).c0 3 _ rfl; have z0 := ((G4.out.below (Nat.le_refl _)).cell (p := ⟨bs, os + k * 4, none⟩) hbs3).trans y0; have z1 := ((G4.out.below (Nat.le_refl _)).cell (p := ⟨bs, os + k * 4 + 1, none⟩) hbs3).trans y1; have z2 := ((G4.out.below (Nat.le_refl _)).cell (p := ⟨bs, os + k * 4 + 2, none⟩) hbs3).trans y2; have z3 := ((G4.out.below (Nat.le_refl _)).cell (p := ⟨bs, os + k * 4 + 3, none⟩) hbs3).trans y3; clear hg4)
            | (go_at_call_of 67 (Value.agg #[.int .i64 xa, .int .i64 xb]); refine (HB1.out _).mono ?_; rintro e w5 ⟨rfl, hg5⟩; have G5 := Lib.hid (G4.out.trans hg5); have M3 := (G5.out.blk HM3.out).c0 3 _ rfl; have u2 := ((G5.out.below (Nat.le_refl _)).cell (p := ⟨bs, os + k * 4 + 2, none⟩) hbs3).trans y2; have u3 := ((G5.out.below (Nat.le_refl _)).cell (p := ⟨bs, os + k * 4 + 3, none⟩) hbs3).trans y3; clear hg5)
            | (go_at_call 67; refine (HB2.out _).mono ?_; rintro e w6 ⟨rfl, hg6⟩; have G6 := Lib.hid (G5.out.trans hg6); clear hg6))
          go_ret
          exact ⟨ret_bool (by rw [Hr.out]), BL1.out.trans ((G4.out.below (Nat.le_refl _)).mono BL1.out.size)⟩
        | true =>
          cases q1 with
          | false =>
            have Hr : Hid (R = false) := Lib.hid (HNS.out rfl)
            clear HTK HTS HNK HNS hall
            go_wp2_with (first
              | (go_at_call 66; refine (HIK.out _).mono ?_; rintro e w4 ⟨rfl, hg4⟩; have G4 := Lib.hid (Hg.out.trans hg4); have N3 := (G4.out.blk HM3.out).c0 3 _ rfl; have z0 := ((G4.out.below (Nat.le_refl _)).cell (p := ⟨bs, os + k * 4, none⟩) hbs3).trans y0; have z1 := ((G4.out.below (Nat.le_refl _)).cell (p := ⟨bs, os + k * 4 + 1, none⟩) hbs3).trans y1; have z2 := ((G4.out.below (Nat.le_refl _)).cell (p := ⟨bs, os + k * 4 + 2, none⟩) hbs3).trans y2; have z3 := ((G4.out.below (Nat.le_refl _)).cell (p := ⟨bs, os + k * 4 + 3, none⟩) hbs3).trans y3; clear hg4)
              | (go_at_call_of 67 (Value.agg #[.int .i64 xa, .int .i64 xb]); refine (HB1.out _).mono ?_; rintro e w5 ⟨rfl, hg5⟩; have G5 := Lib.hid (G4.out.trans hg5); have M3 := (G5.out.blk HM3.out).c0 3 _ rfl; have u2 := ((G5.out.below (Nat.le_refl _)).cell (p := ⟨bs, os + k * 4 + 2, none⟩) hbs3).trans y2; have u3 := ((G5.out.below (Nat.le_refl _)).cell (p := ⟨bs, os + k * 4 + 3, none⟩) hbs3).trans y3; clear hg5)
              | (go_at_call 67; refine (HB2.out _).mono ?_; rintro e w6 ⟨rfl, hg6⟩; have G6 := Lib.hid (G5.out.trans hg6); clear hg6))
            go_ret
            exact ⟨ret_bool (by rw [Hr.out]), BL1.out.trans ((G5.out.below (Nat.le_refl _)).mono BL1.out.size)⟩
          | true =>
            cases q2 with
            | false =>
              have Hr : Hid (R = false) := Lib.hid (HNS.out rfl)
              clear HTK HTS HNK HNS hall
              go_wp2_with (first
                | (go_at_call 66; refine (HIK.out _).mono ?_; rintro e w4 ⟨rfl, hg4⟩; have G4 := Lib.hid (Hg.out.trans hg4); have N3 := (G4.out.blk HM3.out).c0 3 _ rfl; have z0 := ((G4.out.below (Nat.le_refl _)).cell (p := ⟨bs, os + k * 4, none⟩) hbs3).trans y0; have z1 := ((G4.out.below (Nat.le_refl _)).cell (p := ⟨bs, os + k * 4 + 1, none⟩) hbs3).trans y1; have z2 := ((G4.out.below (Nat.le_refl _)).cell (p := ⟨bs, os + k * 4 + 2, none⟩) hbs3).trans y2; have z3 := ((G4.out.below (Nat.le_refl _)).cell (p := ⟨bs, os + k * 4 + 3, none⟩) hbs3).trans y3; clear hg4)
                | (go_at_call_of 67 (Value.agg #[.int .i64 xa, .int .i64 xb]); refine (HB1.out _).mono ?_; rintro e w5 ⟨rfl, hg5⟩; have G5 := Lib.hid (G4.out.trans hg5); have M3 := (G5.out.blk HM3.out).c0 3 _ rfl; have u2 := ((G5.out.below (Nat.le_refl _)).cell (p := ⟨bs, os + k * 4 + 2, none⟩) hbs3).trans y2; have u3 := ((G5.out.below (Nat.le_refl _)).cell (p := ⟨bs, os + k * 4 + 3, none⟩) hbs3).trans y3; clear hg5)
                | (go_at_call 67; refine (HB2.out _).mono ?_; rintro e w6 ⟨rfl, hg6⟩; have G6 := Lib.hid (G5.out.trans hg6); clear hg6))
              go_ret
              exact ⟨ret_bool (by rw [Hr.out]), BL1.out.trans ((G6.out.below (Nat.le_refl _)).mono BL1.out.size)⟩
            | true =>
              have HA : Hid ((nk.take (k + 1)).all kidB = true ∧ (ns.take (k + 1)).all sumB = true) := Lib.hid ⟨by rw [HTK.out, hall.out.1]; rfl, by rw [HTS.out, hall.out.2]; rfl⟩
              clear HTK HTS HNK HNS hall
              go_wp2_with (first
                | (go_at_call 66; refine (HIK.out _).mono ?_; rintro e w4 ⟨rfl, hg4⟩; have G4 := Lib.hid (Hg.out.trans hg4); have N3 := (G4.out.blk HM3.out).c0 3 _ rfl; have z0 := ((G4.out.below (Nat.le_refl _)).cell (p := ⟨bs, os + k * 4, none⟩) hbs3).trans y0; have z1 := ((G4.out.below (Nat.le_refl _)).cell (p := ⟨bs, os + k * 4 + 1, none⟩) hbs3).trans y1; have z2 := ((G4.out.below (Nat.le_refl _)).cell (p := ⟨bs, os + k * 4 + 2, none⟩) hbs3).trans y2; have z3 := ((G4.out.below (Nat.le_refl _)).cell (p := ⟨bs, os + k * 4 + 3, none⟩) hbs3).trans y3; clear hg4)
                | (go_at_call_of 67 (Value.agg #[.int .i64 xa, .int .i64 xb]); refine (HB1.out _).mono ?_; rintro e w5 ⟨rfl, hg5⟩; have G5 := Lib.hid (G4.out.trans hg5); have M3 := (G5.out.blk HM3.out).c0 3 _ rfl; have u2 := ((G5.out.below (Nat.le_refl _)).cell (p := ⟨bs, os + k * 4 + 2, none⟩) hbs3).trans y2; have u3 := ((G5.out.below (Nat.le_refl _)).cell (p := ⟨bs, os + k * 4 + 3, none⟩) hbs3).trans y3; clear hg5)
                | (go_at_call 67; refine (HB2.out _).mono ?_; rintro e w6 ⟨rfl, hg6⟩; have G6 := Lib.hid (G5.out.trans hg6); clear hg6))
              go_roundw
              case rel => exact ⟨k + 1, by omega, by go_num, G6.out, HA⟩
              case measure => simp [intOf]; omega
      · obtain rfl : k = nk.length := by omega
        have HR2 : Hid (R = nb.all (bufB s)) := Lib.hid (by
          have h := hall.out
          rw [List.take_length, ← HL2.out, List.take_length] at h
          rw [HR.out, h.1, h.2]; rfl)
        have BL2 := Lib.hid (BL1.out.trans ((Hg.out.below (Nat.le_refl _)).mono BL1.out.size))
        have HM4 := Lib.hid (Hg.out.blk HM3.out)
        have HC4 := Lib.hid (Hg.out.blk HC3.out)
        have HBy := Lib.hid (HBx.out.below (Hg.out.below (Nat.le_refl _)))
        clear hall HR HM3 HC3 HKx HSx HBx BL1 Hg hls0 HL2
        go_wp2_with fail
        go_loopw [6] (fun i w9 => ∃ k : Nat, k ≤ nb.length ∧ i = .int .i64 k ∧ Below wr.heap.size wr w9 ∧ Hid ((nb.take k).all (bufB s) = true)) (fun i _ => nb.length - (intOf i).toNat)
        case atStart => exact ⟨0, Nat.zero_le _, rfl, Below.refl _ _, Lib.hid rfl⟩
        case round =>
          obtain ⟨k, hk, rfl, hg2, hall⟩ := hrel
          have Hg2 := Lib.hid hg2
          have q4 := (HM4.out.below hg2 HM4.out.lt).c0 4 _ rfl
          clear hg2 m2 m3 m4
          by_cases hlt : k < nb.length
          · have hltz : (k : Int) < (nb.length : Int) := by omega
            obtain ⟨bm, om, cap', he, hbm4, hlz, y0, y1, y2, y3, y4, y5, y6, y7⟩ := at_msg HBy.out k hlt
            injection he with he1 he2 he3
            subst he1 he3
            clear he2
            have HT := Lib.hid (show (nb.take (k + 1)).all (bufB s) = ((nb.take k).all (bufB s) && bufB s nb[k]) by rw [List.take_succ_eq_append_getElem hlt, List.all_append]; simp)
            have HN := Lib.hid (fun (h : bufB s nb[k] = false) => (show R = false by rw [HR2.out, List.all_eq_false.2 ⟨nb[k], List.getElem_mem hlt, by rw [h]; simp⟩]))
            have HV1 := Lib.hid (fun wx => HMV.out nb[k] (List.getElem_mem hlt) wx)
            have HB5 : Hid (bufB s nb[k] = (validM nb[k] && staysB s nb[k])) := Lib.hid rfl
            have HIN0 := Lib.hid (fun (hv : validM nb[k] = true) wx => inside10_w nb[k] s wx (valid_sizeM hv) (valid_kindK hv))
            rw [HB5.out] at HT HN
            clear HB5
            generalize nb[k] = x at *
            have HMS := Lib.hid (show msgV x = .agg #[.int .i64 x.kind, .string (Str x.key), .string (Str x.val), .string (Str x.lo), .string (Str x.hi), .string (Str x.src), .string (Str x.dst), .int .i64 x.n] from rfl)
            rw [HMS.out] at HV1 HIN0
            have hq4 : ∀ wx, Below wr.heap.size wr wx → wx.cell? ⟨w.heap.size, 4, none⟩ = some (.slice (some ⟨bm, om, none⟩) nb.length ce) := fun wx hx => ((HM4.out.below Hg2.out HM4.out.lt).below hx (HM4.out.below Hg2.out HM4.out.lt).lt).c0 4 _ rfl
            have hs0 : ∀ wx, Below wr.heap.size wr wx → wx.cell? ⟨w.heap.size + 1, 0, none⟩ = some (.string (Str s.1)) := fun wx hx => ((HC4.out.below Hg2.out HC4.out.lt).below hx (HC4.out.below Hg2.out HC4.out.lt).lt).c0 0 _ rfl
            have hs1 : ∀ wx, Below wr.heap.size wr wx → wx.cell? ⟨w.heap.size + 1, 1, none⟩ = some (.string (Str s.2)) := fun wx hx => ((HC4.out.below Hg2.out HC4.out.lt).below hx (HC4.out.below Hg2.out HC4.out.lt).lt).c0 1 _ rfl
            have hbm9 : bm < wr.heap.size := Nat.lt_of_lt_of_le hbm4 Hg2.out.size
            have t0 : ∀ wx, Below wr.heap.size wr wx → wx.cell? ⟨bm, om + k * 8, none⟩ = some (.int .i64 x.kind) := fun wx hx => (hx.cell (p := ⟨bm, om + k * 8, none⟩) hbm9).trans ((Hg2.out.cell (p := ⟨bm, om + k * 8, none⟩) hbm4).trans y0)
            have t1 : ∀ wx, Below wr.heap.size wr wx → wx.cell? ⟨bm, om + k * 8 + 1, none⟩ = some (.string (Str x.key)) := fun wx hx => (hx.cell (p := ⟨bm, om + k * 8 + 1, none⟩) hbm9).trans ((Hg2.out.cell (p := ⟨bm, om + k * 8 + 1, none⟩) hbm4).trans y1)
            have t2 : ∀ wx, Below wr.heap.size wr wx → wx.cell? ⟨bm, om + k * 8 + 2, none⟩ = some (.string (Str x.val)) := fun wx hx => (hx.cell (p := ⟨bm, om + k * 8 + 2, none⟩) hbm9).trans ((Hg2.out.cell (p := ⟨bm, om + k * 8 + 2, none⟩) hbm4).trans y2)
            have t3 : ∀ wx, Below wr.heap.size wr wx → wx.cell? ⟨bm, om + k * 8 + 3, none⟩ = some (.string (Str x.lo)) := fun wx hx => (hx.cell (p := ⟨bm, om + k * 8 + 3, none⟩) hbm9).trans ((Hg2.out.cell (p := ⟨bm, om + k * 8 + 3, none⟩) hbm4).trans y3)
            have t4 : ∀ wx, Below wr.heap.size wr wx → wx.cell? ⟨bm, om + k * 8 + 4, none⟩ = some (.string (Str x.hi)) := fun wx hx => (hx.cell (p := ⟨bm, om + k * 8 + 4, none⟩) hbm9).trans ((Hg2.out.cell (p := ⟨bm, om + k * 8 + 4, none⟩) hbm4).trans y4)
            have t5 : ∀ wx, Below wr.heap.size wr wx → wx.cell? ⟨bm, om + k * 8 + 5, none⟩ = some (.string (Str x.src)) := fun wx hx => (hx.cell (p := ⟨bm, om + k * 8 + 5, none⟩) hbm9).trans ((Hg2.out.cell (p := ⟨bm, om + k * 8 + 5, none⟩) hbm4).trans y5)
            have t6 : ∀ wx, Below wr.heap.size wr wx → wx.cell? ⟨bm, om + k * 8 + 6, none⟩ = some (.string (Str x.dst)) := fun wx hx => (hx.cell (p := ⟨bm, om + k * 8 + 6, none⟩) hbm9).trans ((Hg2.out.cell (p := ⟨bm, om + k * 8 + 6, none⟩) hbm4).trans y6)
            have t7 : ∀ wx, Below wr.heap.size wr wx → wx.cell? ⟨bm, om + k * 8 + 7, none⟩ = some (.int .i64 x.n) := fun wx hx => (hx.cell (p := ⟨bm, om + k * 8 + 7, none⟩) hbm9).trans ((Hg2.out.cell (p := ⟨bm, om + k * 8 + 7, none⟩) hbm4).trans y7)
            have HL0 : Hid (Below wr.heap.size wr wr) := Lib.hid (Below.refl _ _)
            clear y0 y1 y2 y3 y4 y5 y6 y7
            cases hq : validM x with
            | false =>
              rw [hq] at HV1 HN
              have Hr : Hid (R = false) := Lib.hid (HN.out rfl)
              clear HT HN hall HIN0 hq
              go_wp2_with fail
              refine wp_region_noPanic ?_
              refine wp_region_held_drew (S := fun wx => Below wr.heap.size wr wx) (by kernel_rfl) (Below.drew HL0.out) (fun hHeld => ?_)
              refine wpAnyH_take (i := 0) (oi := _) (v := ?_) rfl (by kernel_rfl) (by kernel_rfl) (by kernel_rfl) (fun _ _ _ h => h) (Or.inl ⟨by kernel_rfl, ?_⟩) (by with_reducible assumption) ?_
              rotate_left
              · intro wt hSw
                go_simp
                all_goals with_reducible rfl
              try simp only [Act.put, List.setIfInBounds_toArray]
              refine wpAnyH_take (i := 1) (oi := _) (v := ?_) rfl (by kernel_rfl) (by kernel_rfl) (by kernel_rfl) (fun _ _ _ h => h) (Or.inl ⟨by kernel_rfl, ?_⟩) (by with_reducible assumption) ?_
              rotate_left
              · intro wt hSw
                go_simp
                all_goals with_reducible rfl
              try simp only [Act.put]
              refine wpAnyH_take (i := 2) (oi := _) (v := ?_) rfl (by kernel_rfl) (by kernel_rfl) (by kernel_rfl) (fun _ _ _ h => h) (Or.inl ⟨by kernel_rfl, ?_⟩) (by with_reducible assumption) ?_
              rotate_left
              · intro wt hSw
                go_simp
                all_goals with_reducible rfl
              try simp only [Act.put]
              refine wpAnyH_take (i := 3) (oi := _) (v := ?_) rfl (by kernel_rfl) (by kernel_rfl) (by kernel_rfl) (fun _ _ _ h => h) (Or.inl ⟨by kernel_rfl, ?_⟩) (by with_reducible assumption) ?_
              rotate_left
              · intro wt hSw
                go_simp
                all_goals with_reducible rfl
              try simp only [Act.put]
              refine wpAnyH_take (i := 4) (oi := _) (v := ?_) rfl (by kernel_rfl) (by kernel_rfl) (by kernel_rfl) (fun _ _ _ h => h) (Or.inl ⟨by kernel_rfl, ?_⟩) (by with_reducible assumption) ?_
              rotate_left
              · intro wt hSw
                go_simp
                all_goals with_reducible rfl
              try simp only [Act.put]
              refine wpAnyH_ready (rs := [5]) (by kernel_rfl) (by simp) ?_
              refine AllReadyH.cons (o := _) rfl (fun K hK => ?_) AllReadyH.nil
              go_simp
              (go_at_call 29; (refine (HV1.out _).mono ?_); rintro e w7 ⟨rfl, hb7⟩; have hS7 := Below.trans hHeld (hb7.mono (Below.size hHeld)))
              refine hK.out _ _ (by (first | with_reducible assumption | with_reducible refine Below.drew ?_)) (fun hHeld => ?_)
              clear hK K
              try simp only [List.setIfInBounds_toArray, List.set_cons_zero, List.set_cons_succ]
              refine wpAnyH_take (i := 6) (oi := _) (v := ?_) rfl (by kernel_rfl) (by kernel_rfl) (by kernel_rfl) (fun _ _ _ h => h) (Or.inl ⟨by kernel_rfl, ?_⟩) (by with_reducible assumption) ?_
              rotate_left
              · intro wt hSw
                go_simp
                all_goals with_reducible rfl
              try simp only [Act.put, List.setIfInBounds_toArray]
              refine wpAnyH_take (i := 7) (oi := _) (v := ?_) rfl (by kernel_rfl) (by kernel_rfl) (by kernel_rfl) (fun _ _ _ h => h) (Or.inl ⟨by kernel_rfl, ?_⟩) (by with_reducible assumption) ?_
              rotate_left
              · intro wt hSw
                go_simp
                all_goals with_reducible rfl
              try simp only [Act.put]
              refine wpAnyH_take (i := 8) (oi := _) (v := undef) rfl (by kernel_rfl) (by kernel_rfl) (by kernel_rfl) (fun _ _ _ h => h) (Or.inr ⟨by kernel_rfl, rfl⟩) (by with_reducible assumption) ?_
              simp only [Act.put, List.getElem_toArray, List.getElem_cons_zero, List.getElem_cons_succ, List.setIfInBounds_toArray, List.set_cons_zero, List.set_cons_succ]
              refine wpAnyH_take (i := 9) (oi := _) (v := undef) rfl (by kernel_rfl) (by kernel_rfl) (by kernel_rfl) (fun _ _ _ h => h) (Or.inr ⟨by kernel_rfl, rfl⟩) (by with_reducible assumption) ?_
              simp only [Act.put, List.getElem_toArray, List.getElem_cons_zero, List.getElem_cons_succ, List.setIfInBounds_toArray, List.set_cons_zero, List.set_cons_succ]
              refine wpAnyH_take (i := 10) (oi := _) (v := undef) rfl (by kernel_rfl) (by kernel_rfl) (by kernel_rfl) (fun _ _ _ h => h) (Or.inr ⟨by kernel_rfl, rfl⟩) (by with_reducible assumption) ?_
              simp only [Act.put, List.getElem_toArray, List.getElem_cons_zero, List.getElem_cons_succ, List.setIfInBounds_toArray, List.set_cons_zero, List.set_cons_succ]
              refine wpAnyH_take (i := 11) (oi := _) (v := undef) rfl (by kernel_rfl) (by kernel_rfl) (by kernel_rfl) (fun _ _ _ h => h) (Or.inr ⟨by kernel_rfl, rfl⟩) (by with_reducible assumption) ?_
              simp only [Act.put, List.getElem_toArray, List.getElem_cons_zero, List.getElem_cons_succ, List.setIfInBounds_toArray, List.set_cons_zero, List.set_cons_succ]
              refine wpAnyH_take (i := 12) (oi := _) (v := undef) rfl (by kernel_rfl) (by kernel_rfl) (by kernel_rfl) (fun _ _ _ h => h) (Or.inr ⟨by kernel_rfl, rfl⟩) (by with_reducible assumption) ?_
              simp only [Act.put, List.getElem_toArray, List.getElem_cons_zero, List.getElem_cons_succ, List.setIfInBounds_toArray, List.set_cons_zero, List.set_cons_succ]
              refine wpAnyH_take (i := 13) (oi := _) (v := undef) rfl (by kernel_rfl) (by kernel_rfl) (by kernel_rfl) (fun _ _ _ h => h) (Or.inr ⟨by kernel_rfl, rfl⟩) (by with_reducible assumption) ?_
              simp only [Act.put, List.getElem_toArray, List.getElem_cons_zero, List.getElem_cons_succ, List.setIfInBounds_toArray, List.set_cons_zero, List.set_cons_succ]
              refine wpAnyH_take (i := 14) (oi := _) (v := undef) rfl (by kernel_rfl) (by kernel_rfl) (by kernel_rfl) (fun _ _ _ h => h) (Or.inr ⟨by kernel_rfl, rfl⟩) (by with_reducible assumption) ?_
              simp only [Act.put, List.getElem_toArray, List.getElem_cons_zero, List.getElem_cons_succ, List.setIfInBounds_toArray, List.set_cons_zero, List.set_cons_succ]
              refine wpAnyH_take (i := 15) (oi := _) (v := undef) rfl (by kernel_rfl) (by kernel_rfl) (by kernel_rfl) (fun _ _ _ h => h) (Or.inr ⟨by kernel_rfl, rfl⟩) (by with_reducible assumption) ?_
              simp only [Act.put, List.getElem_toArray, List.getElem_cons_zero, List.getElem_cons_succ, List.setIfInBounds_toArray, List.set_cons_zero, List.set_cons_succ]
              refine wpAnyH_take (i := 16) (oi := _) (v := ?_) rfl (by kernel_rfl) (by kernel_rfl) (by kernel_rfl) (fun _ _ _ h => h) (Or.inl ⟨by kernel_rfl, ?_⟩) (by with_reducible assumption) ?_
              rotate_left
              · intro wt hSw
                go_simp
                all_goals with_reducible rfl
              try simp only [Act.put, List.setIfInBounds_toArray]
              refine wpAnyH_done (by kernel_rfl) ?_ _
              refine NoPanic.normal ?_
              have G7 := Lib.hid (Hg2.out.trans (hHeld.mono Hg2.out.size))
              clear hHeld q4 hq4 hs0 hs1 t0 t1 t2 t3 t4 t5 t6 t7
              go_wp2
              go_ret
              exact ⟨ret_bool (by rw [Hr.out]), BL2.out.trans (G7.out.mono BL2.out.size)⟩
            | true =>
              have HIN := Lib.hid (HIN0.out hq)
              rw [hq] at HV1 HT HN
              clear HIN0 hq
              cases hq2 : staysB s x with
              | false =>
                rw [hq2] at HIN HN
                have Hr : Hid (R = false) := Lib.hid (HN.out rfl)
                clear HT HN hall hq2
                go_wp2_with fail
                go_region_held3 (fun wx => Below wr.heap.size wr wx)
                  (repeat (first | with_reducible assumption | with_reducible exact HL0.out | with_reducible refine Below.drew ?_ | with_reducible refine keepBA ?_ _))
                  (first
                    | (go_at_call 29; (refine (HV1.out _).mono ?_); rintro e w7 ⟨rfl, hb7⟩; have hS7 : Below wr.heap.size wr w7 := Below.trans (by repeat (first | with_reducible assumption | with_reducible exact HL0.out | with_reducible refine Below.drew ?_)) (hb7.mono (Below.size (by repeat (first | with_reducible assumption | with_reducible exact HL0.out | with_reducible refine Below.drew ?_)))))
                    | (go_at_call 68; (refine (HIN.out _).mono ?_); rintro e w8 ⟨rfl, hb8⟩; have hS8 : Below wr.heap.size wr w8 := Below.trans (by repeat (first | with_reducible assumption | with_reducible exact HL0.out | with_reducible refine Below.drew ?_)) (hb8.mono (Below.size (by repeat (first | with_reducible assumption | with_reducible exact HL0.out | with_reducible refine Below.drew ?_)))))
                    | fail "no arm")
                all_goals
                  have G8 := Lib.hid (Hg2.out.trans (hS8.mono Hg2.out.size))
                  clear hS7 hS8 q4 hq4 hs0 hs1 t0 t1 t2 t3 t4 t5 t6 t7
                  go_wp2
                  go_ret
                  exact ⟨ret_bool (by rw [Hr.out]), BL2.out.trans (G8.out.mono BL2.out.size)⟩
              | true =>
                rw [hq2] at HIN HT
                have HA : Hid ((nb.take (k + 1)).all (bufB s) = true) := Lib.hid (by rw [HT.out, hall.out]; rfl)
                clear HT HN hall hq2
                go_wp2_with fail
                go_region_held3 (fun wx => Below wr.heap.size wr wx)
                  (repeat (first | with_reducible assumption | with_reducible exact HL0.out | with_reducible refine Below.drew ?_ | with_reducible refine keepBA ?_ _))
                  (first
                    | (go_at_call 29; (refine (HV1.out _).mono ?_); rintro e w7 ⟨rfl, hb7⟩; have hS7 : Below wr.heap.size wr w7 := Below.trans (by repeat (first | with_reducible assumption | with_reducible exact HL0.out | with_reducible refine Below.drew ?_)) (hb7.mono (Below.size (by repeat (first | with_reducible assumption | with_reducible exact HL0.out | with_reducible refine Below.drew ?_)))))
                    | (go_at_call 68; (refine (HIN.out _).mono ?_); rintro e w8 ⟨rfl, hb8⟩; have hS8 : Below wr.heap.size wr w8 := Below.trans (by repeat (first | with_reducible assumption | with_reducible exact HL0.out | with_reducible refine Below.drew ?_)) (hb8.mono (Below.size (by repeat (first | with_reducible assumption | with_reducible exact HL0.out | with_reducible refine Below.drew ?_)))))
                    | fail "no arm")
                have G8 := Lib.hid (Hg2.out.trans (hS8.mono Hg2.out.size))
                clear hS7 hS8 q4 hq4 hs0 hs1 t0 t1 t2 t3 t4 t5 t6 t7
                go_wp2
                go_roundw
                case rel => exact ⟨k + 1, by omega, by go_num, G8.out, HA⟩
                case measure => simp [intOf]; omega
          · obtain rfl : k = nb.length := by omega
            have Hr : Hid (R = true) := Lib.hid (by have h := hall.out; rw [List.take_length] at h; rw [HR2.out, h])
            clear hall
            go_wp2
            go_ret
            exact ⟨ret_bool (by rw [Hr.out]), BL2.out.trans (Hg2.out.mono BL2.out.size)⟩

end Go.Proofs.YtmbfghbhajmpiaaGreat
