/-
  The walk of the law RouteInside.
-/
import Derived.Test.YtjncehkldhkobaaGreatSI
import Derived.Test.YtjncehkldhkobaaGreatSJ
import Derived.Test.YtjncehkldhkobaaGreatVB
namespace Go.Proofs.YtjncehkldhkobaaGreat
open Go.RowKit Go.Sort
set_option linter.unusedVariables false

theorem valid_set {m : Ms} (h : validM m = true) (hsp : hasSpB m = true) {x : Sp} (hne : emptyB x = false) (h1 : x.1.length ≤ 65535) (h2 : x.2.length ≤ 65535) : validM (setSp m x) = true := by
  obtain ⟨k, ky, va, lo, hi, sr, ds, n⟩ := m
  obtain ⟨xa, xb⟩ := x
  have hs : spanB xa xb = true := by
    unfold spanB; rw [hne, decide_eq_true h1, decide_eq_true h2]; rfl
  rcases (hasSp_iff _).1 hsp with h3 | h3
  · dsimp only at h3
    subst h3
    unfold validM fitsB bareM setSp at *
    simp at *
    exact ⟨hs, h.2⟩
  · dsimp only at h3
    subst h3
    unfold validM fitsB bareM setSp at *
    simp at *
    exact ⟨⟨hs, h.1.2⟩, h.2⟩
theorem valid_only {m : Ms} (h : validM m = true) {s : Sp} (h1 : s.1.length ≤ 65535) (h2 : s.2.length ≤ 65535) (hm : movesB m = true ∨ meetB s (writesS m) = true) : validM (onlyS m s) = true := by
  cases hsp : hasSpB m with
  | false => unfold onlyS; rw [if_neg (by rw [hsp]; simp)]; exact h
  | true =>
    rcases hm with hm | hm
    · rw [moves_no_sp hm] at hsp; cases hsp
    unfold onlyS
    rw [if_pos hsp]
    have hlen : m.lo.length ≤ 65535 ∧ m.hi.length ≤ 65535 := by
      have hf := h
      unfold validM fitsB at hf
      rcases (hasSp_iff _).1 hsp with h3 | h3
      · simp [h3] at hf
        have := hf.1
        unfold spanB at this
        simp at this
        omega
      · simp [h3] at hf
        have := hf.1.1
        unfold spanB at this
        simp at this
        omega
    have hl := meet_short (M := 65535) (by decide) (a := (m.lo, m.hi)) (b := s) hlen ⟨h1, h2⟩
    refine valid_set h hsp ?_ hl.1 hl.2
    rw [writes_sp hsp] at hm
    unfold meetB at hm
    simpa using hm
theorem ready_valid {s : Sp} (h1 : s.1.length ≤ 65535) (h2 : s.2.length ≤ 65535) {l : List Ms} (hl : ∀ m ∈ l, validM m = true) : ∀ m ∈ (readyW s l).1, validM m = true := by
  have h : ∀ k, k ≤ l.length → ∀ m ∈ (readyW s (l.take k)).1, validM m = true := by
    intro k
    induction k with
    | zero => intro _; rw [List.take_zero]; exact fun m h => (by cases h)
    | succ k ih =>
      intro hk
      have ih1 := ih (Nat.le_of_succ_le hk)
      have hm := hl _ (List.getElem_mem hk)
      rw [ready_take s l k hk]
      cases hg : goesB s (readyW s (l.take k)).2.2 l[k] with
      | true =>
        rw [step_go hg]
        intro m hx
        rcases List.mem_append.1 hx with hx | hx
        · exact ih1 m hx
        · obtain rfl := List.mem_singleton.1 hx
          refine valid_only hm h1 h2 ?_
          unfold goesB at hg
          cases hv : movesB l[k] with
          | true => exact .inl rfl
          | false => rw [hv, if_neg (by simp), Bool.and_eq_true] at hg; exact .inr hg.1
      | false => rw [step_stay hg]; exact ih1
  have := h l.length (Nat.le_refl _)
  rwa [List.take_length] at this
theorem ready_inside (s : Sp) (l : List Ms) {t : List Pr} (ht : Srt t) : withoutS [s] (allS (readyW s l).1 t) = withoutS [s] t := all_without s _ ht (rdInv s l).lie
theorem ready_lies (s : Sp) (l : List Ms) : ∀ m ∈ (readyW s l).1, liesB m s = true := fun m hm => (lies_iff m s).2 ((rdInv s l).lie m hm)
theorem spans_single (W : World) (x : Sp) (T : TypeId) : IsSpans (W.alloc (.cells #[.string (Str x.1), .string (Str x.2)] T)) (.slice (some ⟨W.heap.size, 0, none⟩) 1 1) [x] := by
  refine ⟨_, _, rfl, Nat.le_refl _, by unfold maxLen; omega, fun _ => ⟨W.heap.size, 0, rfl, by simp, fun i hi => ?_⟩⟩
  obtain rfl : i = 0 := by simp at hi; exact hi
  constructor
  · rw [World.cell?_alloc_new]; simp
  · rw [World.cell?_alloc_new]; simp
theorem one_six {m : Ms} (h : validM m = true) : OneToSix m := by have := kind_cases m h; unfold OneToSix; omega

set_option maxRecDepth 100000 in
set_option maxHeartbeats 8000000 in
theorem routeInside_walk (w : World) (v0 : Value) (x0 : List Rw) (r0 : IsRaws w v0 x0) (v1 : Value) (x1 : List R6) (r1 : IsR6s w v1 x1) (v2 : Value) (x2 : Bs) (r2 : IsBytes w v2 x2) :
    Calls Tryz.prog 7 #[v0, v1, v2] w fun e w' => e = .returned (.bool true) ∧ Below w.heap.size w w' := by
  have mixed := mixedA
  have R0 := Lib.hid r0
  have R1 := Lib.hid r1
  have R2 := Lib.hid r2
  obtain ⟨a0, q0, rfl, -⟩ := r0
  obtain ⟨a1, q1, rfl, -⟩ := r1
  obtain ⟨a2, q2, rfl, -⟩ := r2
  have HSAN := Lib.hid (sanity_w w)
  go_enter Tryz.func7, Tryz.ntmps7
  go_wp2_with fail
  refine HSAN.out.mono ?_
  rintro e w1 ⟨rfl, hb1⟩
  have HB1 := Lib.hid hb1
  clear hb1 HSAN
  go_wp2_with fail
  refine (table_w _ x0 12 w1 (R0.out.below HB1.out) (by decide)).mono ?_
  rintro e w2 ⟨vt, rfl, ht1, ht2, hb2⟩
  have HT2 := Lib.hid ht2
  have HB2 := Lib.hid (HB1.out.trans (hb2.mono HB1.out.size))
  clear ht1 ht2 hb2 HB1
  go_wp2_with fail
  refine (list_w _ x1 10 w2 (R1.out.below HB2.out) (by decide)).mono ?_
  rintro e w3 ⟨vb, rfl, ho3, hb3⟩
  have HM3 := Lib.hid ho3.msgs
  have HT3 := Lib.hid (HT2.out.below hb3)
  have HB3 := Lib.hid (HB2.out.trans (hb3.mono HB2.out.size))
  clear ho3 hb3 HT2 HB2
  go_wp2_with fail
  refine (pivots8_w _ x2 w3 (R2.out.below HB3.out)).mono ?_
  rintro e w4 ⟨vp, rfl, hs4, hb4⟩
  have HS4 := Lib.hid hs4
  have HM4 := Lib.hid (HM3.out.below hb4)
  have HT4 := Lib.hid (HT3.out.below hb4)
  have HB4 := Lib.hid (HB3.out.trans (hb4.mono HB3.out.size))
  clear hb4 HM3 HT3 HB3 R0 R1 R2
  -- what is known
  have hst := srt_table x0 12
  have htl := table_len x0 12
  have htk : ∀ x ∈ tableS x0 12, x.1.length ≤ 100 := fun x hx => Nat.le_trans (table_small x hx).1 (by decide)
  have hbo := listS_okR x1 10
  have hbl := listS_len x1 10
  have hps := pivR_srt x2
  have hpl := pivR_len x2
  have hkz := kid_size x2
  have hks := kid_short x2
  generalize tableS x0 12 = T at *
  generalize listS x1 10 = B at *
  generalize pivR x2 = ps at *
  have HOB : Hid (∀ m ∈ B, OkR m) := Lib.hid (fun m hm => (hbo m hm).1)
  have HVB : Hid (∀ m ∈ B, validM m = true) := Lib.hid (fun m hm => (hbo m hm).2)
  have HOK : Hid (∀ k, OkAll (readyW (kidSp ps k) B).1 T) := Lib.hid (fun k => by
    obtain ⟨g1, g2⟩ := ready_ok (hkz k) HOB.out
    have l1 := ready_len (kidSp ps k) B
    have c1 := mv_ready (kidSp ps k) B
    have c3 := mv_len B
    exact okAll_mv _ hst (by omega) htk (fun m hm => (g1 m hm).2.2) (by omega) (by omega))
  have HST := Lib.hid hst
  have HKZ := Lib.hid hkz
  have HKS := Lib.hid hks
  have hkl := kids_len ps
  have HKE := Lib.hid (fun k (h : k < ps.length + 1) => kidSp_at (ps := ps) h)
  obtain ⟨at', ct, rfl⟩ := slice_tbl HT4.out
  obtain ⟨ab, cb, rfl, hcb, hcbm, -⟩ := id HM4.out
  obtain ⟨ap, cp, rfl, hcp, hcpm, -⟩ := id HS4.out
  have htlz : T.length ≤ 500000000 := by omega
  clear hst htl htk hbo hps hkz hks hs4
  go_wp2_with fail
  refine (spans8_w _ ps w4 HS4.out (by omega)).mono ?_
  rintro e w5 ⟨vs, rfl, ho5, hb5⟩
  have HK5 := Lib.hid (IsSpans.owned ho5)
  have HS5 := Lib.hid (HS4.out.below hb5)
  have HM5 := Lib.hid (HM4.out.below hb5)
  have HT5 := Lib.hid (HT4.out.below hb5)
  have HB5 := Lib.hid (HB4.out.trans (hb5.mono HB4.out.size))
  obtain ⟨aK, cK, rfl, -⟩ := id HK5.out
  clear ho5 hb5 HS4 HM4 HT4 HB4
  have hklz : ((kidsS ps).length : Int) = (ps.length : Int) + 1 := by omega
  have HKL := Lib.hid hkl
  rw [hkl]
  clear hkl hklz
  go_wp2
  go_loopw [12] (fun i wr => ∃ k : Nat, i = .int .i64 k ∧ k ≤ ps.length + 1 ∧ Below w5.heap.size w5 wr) (fun i _ => ps.length + 1 - (intOf i).toNat)
  case atStart => exact ⟨0, rfl, Nat.zero_le _, Below.refl _ _⟩
  case round =>
    obtain ⟨k, rfl, hk, hbel⟩ := hrel
    have Hbel := Lib.hid hbel
    clear hbel
    by_cases hle : k < ps.length + 1
    · have hlez : (k : Int) < ((ps.length + 1 : Nat) : Int) := by omega
      have hokG := ready_ok (HKZ.out k) HOB.out
      have hlen := ready_len (kidSp ps k) B
      have HR1 := Lib.hid (fun wx (h1 : IsMsgs wx (.slice ab B.length cb) B) (h2 : IsStrs wx (.slice ap ps.length cp) ps) => lready_w _ _ B ps k wx h1 h2 (fun m hm => (HOB.out m hm).1) (fun m hm => (HOB.out m hm).2.1) (by omega) (HKZ.out k) (by omega) (by omega))
      have HR2 := Lib.hid (fun v wx (h1 : IsMsgs wx v (readyW (kidSp ps k) B).2.1) (h2 : IsStrs wx (.slice ap ps.length cp) ps) => lready_w _ _ (readyW (kidSp ps k) B).2.1 ps k wx h1 h2 (fun m hm => (hokG.2 m hm).1) (fun m hm => (hokG.2 m hm).2.1) (by omega) (HKZ.out k) (by omega) (by omega))
      have HGO := Lib.hid (fun m (hm : m ∈ (readyW (kidSp ps k) B).1) => And.intro (ready_valid (s := kidSp ps k) (by have := HKS.out k; omega) (by have := HKS.out k; omega) HVB.out m hm) (And.intro (ready_lies (kidSp ps k) B m hm) (hokG.1 m hm).1))
      have HIN := Lib.hid (ready_inside (kidSp ps k) B HST.out)
      have HAG := Lib.hid (rdInv (kidSp ps k) B).again
      have HOKk := Lib.hid (HOK.out k)
      unfold WayOut at HR1 HR2
      rw [HAG.out] at HR2
      have HEK := Lib.hid (HKE.out k hle)
      generalize kidSp ps k = S at *
      generalize readyW S B = W1 at *
      obtain ⟨G, St, Bl⟩ := W1
      dsimp only at HR1 HR2 HGO HIN HOKk hokG hlen
      have HA1 := Lib.hid (fun v wx (h1 : IsPairs wx (.slice at' T.length ct) T) (h2 : IsMsgs wx v G) => all_w _ v T G wx h1 h2 HST.out (fun m hm => (hokG.1 m hm).1) HOKk.out)
      have hng : (allS G T).length ≤ 500000000 := by have h9 := (okAll_end HOKk.out).1; omega
      clear hokG HOKk HAG
      generalize allS G T = N1 at *
      go_wp2_with fail
      refine (HR1.out _ (HM5.out.below Hbel.out) (HS5.out.below Hbel.out)).mono ?_
      rintro e w6 ⟨g1, s1, rfl, hg1, hs1, hb6⟩
      have HG6 := Lib.hid hg1.msgs
      have HS6 := Lib.hid hs1.msgs
      have HB6 := Lib.hid (Hbel.out.trans (hb6.mono Hbel.out.size))
      obtain ⟨ag, cg, rfl, -⟩ := hg1.msgs
      obtain ⟨asx, csx, rfl, -⟩ := hs1.msgs
      clear hg1 hs1 hb6
      have hX : Blk (w6.alloc (.cells #[.slice ag G.length cg, .slice asx St.length csx, .slice none 0 0] 34)) w6.heap.size 34 #[.slice ag G.length cg, .slice asx St.length csx, .slice none 0 0] := Blk.new _ _ _
      have hbx6 := below_box (w := w6) (.cells #[.slice ag G.length cg, .slice asx St.length csx, .slice none 0 0] 34)
      have HX := Lib.hid hX
      have HB7 := Lib.hid (HB6.out.trans (hbx6.mono HB6.out.size))
      have HG7 := Lib.hid (HG6.out.below hbx6)
      have HS7 := Lib.hid (HS6.out.below hbx6)
      clear hX hbx6
      go_wp2_with fail
      generalize w6.alloc (.cells #[.slice ag G.length cg, .slice asx St.length csx, .slice none 0 0] 34) = w7 at *
      generalize w6.heap.size = bx at *
      have hgz : (G.length : Int) ≤ 9223372036854775807 := by omega
      go_loopw [14] (fun i wr => ∃ j : Nat, i = .int .i64 j ∧ j ≤ G.length ∧ Below w7.heap.size w7 wr) (fun i _ => G.length - (intOf i).toNat)
      case atStart => exact ⟨0, rfl, Nat.zero_le _, Below.refl _ _⟩
      case round =>
        obtain ⟨j, rfl, hj, hbl⟩ := hrel
        have HBL := Lib.hid hbl
        clear hbl
        by_cases hlt : j < G.length
        · obtain ⟨b, off, cap, he, hbl1, hlz, hm⟩ := msg_cells (HG7.out.below HBL.out) j hlt
          injection he with he1 he2 he3
          subst he1 he3
          clear he2
          have hltz : (j : Int) < (G.length : Int) := by omega
          have hKW := (HK5.out.below HB7.out).below HBL.out
          have hkk : k < (kidsS ps).length := by rw [HKL.out]; exact hle
          obtain ⟨b2, off2, cap2, he, hbl2, -, y0, y1⟩ := span_cells hKW k hkk
          injection he with he1 he2 he3
          subst he1 he3
          clear he2 hKW
          rw [show (kidsS ps)[k] = S from HEK.out.symm] at y0 y1
          obtain ⟨g1, g2, g3⟩ := HGO.out G[j] (List.getElem_mem hlt)
          have HVA := Lib.hid (fun wx => valid_w G[j] wx)
          have HLI := Lib.hid (fun wx => rlies_w G[j] S wx g3 (one_six g1))
          rw [g1] at HVA
          rw [g2] at HLI
          clear g1 g2 g3
          generalize G[j] = m at *
          obtain ⟨z0, z1, z2, z3, z4, z5, z6, z7⟩ := hm
          obtain ⟨sa, sb⟩ := S
          dsimp only at y0 y1
          simp only [strS] at HLI
          have hxx : ∀ wx, Below wr.heap.size wr wx → wx.cell? ⟨bx, 0, none⟩ = some (.slice (some ⟨b, off, none⟩) G.length cg) := fun wx hx => ((HX.out.below HBL.out HX.out.lt).below hx (HX.out.below HBL.out HX.out.lt).lt).c0 0 _ rfl
          have x0 : ∀ wx, Below wr.heap.size wr wx → wx.cell? ⟨b, off + j * 8, none⟩ = some (.int .i64 m.kind) := fun wx hx => (hx.cell (p := ⟨b, off + j * 8, none⟩) hbl1).trans z0
          have x1 : ∀ wx, Below wr.heap.size wr wx → wx.cell? ⟨b, off + j * 8 + 1, none⟩ = some (.string (Str m.key)) := fun wx hx => (hx.cell (p := ⟨b, off + j * 8 + 1, none⟩) hbl1).trans z1
          have x2 : ∀ wx, Below wr.heap.size wr wx → wx.cell? ⟨b, off + j * 8 + 2, none⟩ = some (.string (Str m.val)) := fun wx hx => (hx.cell (p := ⟨b, off + j * 8 + 2, none⟩) hbl1).trans z2
          have x3 : ∀ wx, Below wr.heap.size wr wx → wx.cell? ⟨b, off + j * 8 + 3, none⟩ = some (.string (Str m.lo)) := fun wx hx => (hx.cell (p := ⟨b, off + j * 8 + 3, none⟩) hbl1).trans z3
          have x4 : ∀ wx, Below wr.heap.size wr wx → wx.cell? ⟨b, off + j * 8 + 4, none⟩ = some (.string (Str m.hi)) := fun wx hx => (hx.cell (p := ⟨b, off + j * 8 + 4, none⟩) hbl1).trans z4
          have x5 : ∀ wx, Below wr.heap.size wr wx → wx.cell? ⟨b, off + j * 8 + 5, none⟩ = some (.string (Str m.src)) := fun wx hx => (hx.cell (p := ⟨b, off + j * 8 + 5, none⟩) hbl1).trans z5
          have x6 : ∀ wx, Below wr.heap.size wr wx → wx.cell? ⟨b, off + j * 8 + 6, none⟩ = some (.string (Str m.dst)) := fun wx hx => (hx.cell (p := ⟨b, off + j * 8 + 6, none⟩) hbl1).trans z6
          have x7 : ∀ wx, Below wr.heap.size wr wx → wx.cell? ⟨b, off + j * 8 + 7, none⟩ = some (.int .i64 m.n) := fun wx hx => (hx.cell (p := ⟨b, off + j * 8 + 7, none⟩) hbl1).trans z7
          have hy0 : ∀ wx, Below wr.heap.size wr wx → wx.cell? ⟨b2, off2 + k * 2, none⟩ = some (.string (Str sa)) := fun wx hx => (hx.cell (p := ⟨b2, off2 + k * 2, none⟩) hbl2).trans y0
          have hy1 : ∀ wx, Below wr.heap.size wr wx → wx.cell? ⟨b2, off2 + k * 2 + 1, none⟩ = some (.string (Str sb)) := fun wx hx => (hx.cell (p := ⟨b2, off2 + k * 2 + 1, none⟩) hbl2).trans y1
          have HL0 : Hid (Below wr.heap.size wr wr) := Lib.hid (Below.refl _ _)
          have hbx := Lib.hid (show ∀ i x, (#[Value.slice (some ⟨b, off, none⟩) G.length cg, .slice asx St.length csx, .slice none 0 0] : Array Value)[i]? = some x → wr.cell? ⟨bx, i, none⟩ = some x from fun i x hi => (HX.out.below HBL.out HX.out.lt).c0 i x hi)
          have c0 : wr.cell? ⟨bx, 0, none⟩ = some (.slice (some ⟨b, off, none⟩) G.length cg) := hbx.out 0 _ rfl
          clear z0 z1 z2 z3 z4 z5 z6 z7 y0 y1 HA1 HR1 HR2 HGO
          go_wp2_with fail
          go_region_held3 (fun wx => Below wr.heap.size wr wx)
            (repeat (first | with_reducible assumption | with_reducible exact HL0.out | with_reducible refine Below.drew ?_ | with_reducible refine keepA ?_ _))
            (first
              | (go_at_call 37; (refine (HVA.out _).mono ?_); rintro e2 y2 ⟨rfl, hg2⟩; have hS2 : Below wr.heap.size wr y2 := keepG (by repeat (first | with_reducible assumption | with_reducible exact HL0.out | with_reducible refine Below.drew ?_ | with_reducible refine keepA ?_ _)) hg2)
              | (go_at_call 38; (refine (HLI.out _).mono ?_); rintro e3 y3 ⟨rfl, hb3⟩; have hS3 : Below wr.heap.size wr y3 := keepB (by repeat (first | with_reducible assumption | with_reducible exact HL0.out | with_reducible refine Below.drew ?_ | with_reducible refine keepA ?_ _)) hb3)
              | fail "no arm")
          have HF : Hid (Below w7.heap.size w7 y3) := Lib.hid (HBL.out.trans (hS3.mono HBL.out.size))
          clear hS2 hS3 hg2 hb3 hxx x0 x1 x2 x3 x4 x5 x6 x7 hy0 hy1 c0
          go_wp2
          go_roundw
          case rel => exact ⟨j + 1, by go_num, by omega, HF.out⟩
          case measure => simp [intOf]; omega
        · obtain rfl : j = G.length := by omega
          have HB8 := Lib.hid (HB7.out.trans (HBL.out.mono HB7.out.size))
          have HX8 := Lib.hid (HX.out.below HBL.out HX.out.lt)
          have hkk : k < (kidsS ps).length := by rw [HKL.out]; exact hle
          obtain ⟨b2, off2, cap2, he, hbl2, -, y0, y1⟩ := span_cells (HK5.out.below HB8.out) k hkk
          injection he with he1 he2 he3
          subst he1 he3
          clear he2
          rw [show (kidsS ps)[k] = S from HEK.out.symm] at y0 y1
          obtain ⟨o8, ho8⟩ : ∃ o, o = Obj.cells #[.string (Str S.1), .string (Str S.2)] 38 := ⟨_, rfl⟩
          have hbo8 := below_box (w := wr) o8
          have HO := Lib.hid hbo8
          have HSI : Hid (IsSpans (wr.alloc o8) (.slice (some ⟨wr.heap.size, 0, none⟩) 1 1) [S]) := Lib.hid (by rw [ho8]; exact spans_single wr S 38)
          have HX9 := Lib.hid (HX8.out.below hbo8 HX8.out.lt)
          have c0 : wr.cell? ⟨bx, 0, none⟩ = some (.slice ag G.length cg) := HX8.out.c0 0 _ rfl
          have d0 : (wr.alloc (Obj.cells #[.string (Str S.1), .string (Str S.2)] 38)).cell? ⟨bx, 0, none⟩ = some (.slice ag G.length cg) := by rw [← ho8]; exact HX9.out.c0 0 _ rfl
          have HO8 := Lib.hid ho8
          have HB9 := Lib.hid (HB8.out.trans (hbo8.mono HB8.out.size))
          have HBM := Lib.hid (HBL.out.trans (hbo8.mono HBL.out.size))
          clear hbo8 ho8 HX8 hbl2 HGO
          have hlt0 : ¬ G.length < G.length := Nat.lt_irrefl _
          go_wp2_with fail
          clear d0 c0 y0 y1
          rw [← HO8.out]
          clear HO8 HO
          generalize wr.alloc o8 = w8 at *
          generalize wr.heap.size = bs at *
          refine (HA1.out _ _ ((HT5.out.below HB7.out).below HBM.out) (HG7.out.below HBM.out)).mono ?_
          rintro e w9 ⟨vn, rfl, -, hn2, hb9⟩
          have HN := Lib.hid hn2
          have HS9 := Lib.hid (HSI.out.below hb9)
          have HB10 := Lib.hid (HB9.out.trans (hb9.mono HB9.out.size))
          have HM10 := Lib.hid (HBM.out.trans (hb9.mono HBM.out.size))
          have HX10 := Lib.hid (HX9.out.below hb9 HX9.out.lt)
          obtain ⟨an, cn, rfl⟩ := slice_tbl hn2
          clear hn2 hb9 HSI HB9 HBM HX9
          go_wp2_with fail
          refine (without_w _ _ N1 [S] w9 HN.out HS9.out hng).mono ?_
          rintro e w10 ⟨vq, rfl, -, hq2, hb9⟩
          have HQ := Lib.hid hq2
          have HS10 := Lib.hid (HS9.out.below hb9)
          have HB11 := Lib.hid (HB10.out.trans (hb9.mono HB10.out.size))
          have HM11 := Lib.hid (HM10.out.trans (hb9.mono HM10.out.size))
          have HX11 := Lib.hid (HX10.out.below hb9 HX10.out.lt)
          obtain ⟨aq, cq, rfl⟩ := slice_tbl hq2
          clear hq2 hb9 HN HS9 HB10 HM10 HX10
          go_wp2_with fail
          refine (without_w _ _ T [S] w10 ((HT5.out.below HB7.out).below HM11.out) HS10.out htlz).mono ?_
          rintro e w11 ⟨vz, rfl, -, hz2, hb9⟩
          have HZ := Lib.hid hz2
          have HQ2 := Lib.hid (HQ.out.below hb9)
          have HB12 := Lib.hid (HB11.out.trans (hb9.mono HB11.out.size))
          have HM12 := Lib.hid (HM11.out.trans (hb9.mono HM11.out.size))
          have HX12 := Lib.hid (HX11.out.below hb9 HX11.out.lt)
          obtain ⟨az, cz, rfl⟩ := slice_tbl hz2
          clear hz2 hb9 HQ HS10 HB11 HM11 HX11
          go_wp2_with fail
          refine (rsame_w _ _ _ _ w11 HQ2.out HZ.out).mono ?_
          rintro e w12 ⟨rfl, nd, hw12⟩
          have hb12 : Below w11.heap.size w11 w12 := by rw [hw12]; exact below_drewN _ _
          have HB13 := Lib.hid (HB12.out.trans (hb12.mono HB12.out.size))
          have HM13 := Lib.hid (HM12.out.trans (hb12.mono HM12.out.size))
          have HX13 := Lib.hid (HX12.out.below hb12 HX12.out.lt)
          rw [decide_eq_true HIN.out]
          have c1 : w12.cell? ⟨bx, 1, none⟩ = some (.slice asx St.length csx) := HX13.out.c0 1 _ rfl
          have HS13 := Lib.hid (HS7.out.below HM13.out)
          clear hw12 hb12 HQ2 HZ HB12 HM12 HX12 HIN HA1
          go_wp2_with fail
          refine (HR2.out _ w12 HS13.out (HS5.out.below HB13.out)).mono ?_
          rintro e w13 ⟨g1, s1, rfl, hg1, hs1, hb13⟩
          have HS14 := Lib.hid hs1.msgs
          have HB14 := Lib.hid (HB13.out.trans (hb13.mono HB13.out.size))
          have HX14 := Lib.hid (HX13.out.below hb13 HX13.out.lt)
          have HT14 := Lib.hid (HS13.out.below hb13)
          obtain ⟨ah, ch, rfl, -⟩ := hg1.msgs
          obtain ⟨av, cv, rfl, -⟩ := hs1.msgs
          clear hg1 hs1 hb13 c1 HS13 HX13 HM13 HB13
          obtain ⟨o14, ho14⟩ : ∃ o, o = Obj.cells #[.slice ah 0 ch, .slice av St.length cv, .slice none 0 0] 34 := ⟨_, rfl⟩
          have hbo := below_box (w := w13) o14
          have hX : Blk (w13.alloc o14) w13.heap.size 34 #[.slice ah 0 ch, .slice av St.length cv, .slice none 0 0] := by rw [ho14]; exact Blk.new _ _ _
          have HXN := Lib.hid hX
          have HXO := Lib.hid (HX14.out.below hbo HX14.out.lt)
          have HSN := Lib.hid (HS14.out.below hbo)
          have HSO := Lib.hid (HT14.out.below hbo)
          have HB15 := Lib.hid (HB14.out.trans (hbo.mono HB14.out.size))
          have HO := Lib.hid ho14
          have d1 : (w13.alloc (Obj.cells #[.slice ah 0 ch, .slice av St.length cv, .slice none 0 0] 34)).cell? ⟨bx, 1, none⟩ = some (.slice asx St.length csx) := by rw [← ho14]; exact HXO.out.c0 1 _ rfl
          clear hbo hX ho14 HX14 HS14 HT14 HB14
          simp only [List.length_nil] at *
          go_wp2_with fail
          rw [← HO.out]
          clear d1
          refine (samemsgs_w _ _ St St _ HSN.out HSO.out).mono ?_
          rintro e w15 ⟨rfl, nd, hw15⟩
          have hb15 : Below (w13.alloc o14).heap.size (w13.alloc o14) w15 := by rw [hw15]; exact below_drewN _ _
          have HF := Lib.hid (HB15.out.trans (hb15.mono HB15.out.size))
          rw [decide_eq_true rfl]
          clear hw15 hb15 HO HSN HSO HXN HXO HB15
          go_wp2
          go_roundw
          case rel => exact ⟨k + 1, by go_num, by omega, HF.out⟩
          case measure => simp [intOf]; omega
    · obtain rfl : k = ps.length + 1 := by omega
      go_wp2
      go_ret
      exact ⟨rfl, HB5.out.trans (Hbel.out.mono HB5.out.size)⟩

end Go.Proofs.YtjncehkldhkobaaGreat
