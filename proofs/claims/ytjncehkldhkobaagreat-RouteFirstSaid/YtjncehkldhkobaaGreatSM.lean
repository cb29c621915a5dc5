/-
  The walk of the law RouteFirst.
-/
import Derived.Test.YtjncehkldhkobaaGreatSL
namespace Go.Proofs.YtjncehkldhkobaaGreat
open Go.RowKit Go.Sort
set_option linter.unusedVariables false

theorem readyF_grow (s : Sp) : ∀ (l : List Ms) (w : Wy), ∃ g t b, readyF s w l = (w.1 ++ g, w.2.1 ++ t, b)
  | [], w => ⟨[], [], w.2.2, by show w = _; simp⟩
  | m :: l, w => by
    obtain ⟨g, t, b, h⟩ := readyF_grow s l (stepR s w m)
    rw [show readyF s w (m :: l) = readyF s (stepR s w m) l from rfl, h]
    cases hg : goesB s w.2.2 m with
    | true => rw [step_go hg]; exact ⟨onlyS m s :: g, restR m s ++ t, b, by simp⟩
    | false => rw [step_stay hg]; exact ⟨g, m :: t, b, by simp⟩
theorem touch_nil (l : List Sp) : touchB l [] = false := touch_none fun k _ => rfl
theorem first_cross {m : Ms} {ps : List Bs} (hs : SrtP ps) (hc : crossB m ps = true) {k : Nat} (hk : k < ps.length + 1) (l : List Ms) : ∃ t, (readyW (kidSp ps k) (m :: l)).2.1 = m :: t := by
  have hc' := hc
  unfold crossB at hc'
  rw [Bool.and_eq_true] at hc'
  obtain ⟨hm, hn⟩ := hc'
  have hg : goesB (kidSp ps k) [] m = false := by
    unfold goesB
    rw [if_pos hm]
    cases hl : liesB m (kidSp ps k) with
    | false => rfl
    | true =>
      have e := lies_kid hs hm hk hl
      rw [e] at hl
      rw [hl] at hn
      cases hn
  obtain ⟨g, t, b, h⟩ := readyF_grow (kidSp ps k) l (stepR (kidSp ps k) ([], [], []) m)
  refine ⟨t, ?_⟩
  rw [show readyW (kidSp ps k) (m :: l) = readyF (kidSp ps k) (stepR (kidSp ps k) ([], [], []) m) l from rfl, h, step_stay hg]
  rfl
theorem first_goes {m : Ms} {ps : List Bs} (hs : SrtP ps) (hc : crossB m ps = false) {k : Nat} (hk : k < ps.length + 1) (hm : meetB (kidSp ps k) (writesS m) = true) (l : List Ms) : ∃ g, (readyW (kidSp ps k) (m :: l)).1 = onlyS m (kidSp ps k) :: g := by
  have hg : goesB (kidSp ps k) [] m = true := by
    unfold goesB
    split
    · next hv =>
      rcases side_kid hs hc hk hv with h | h
      · rw [h, touch_nil]; rfl
      · obtain ⟨j, h1, h2⟩ := (meet_iff _ _).1 hm
        have h3 : inB (touchS m) j = true := by unfold touchS; rw [inB_append, h1, Bool.or_true]
        rw [h j h3] at h2; cases h2
    · rw [hm, touch_nil]; rfl
  obtain ⟨g, t, b, h⟩ := readyF_grow (kidSp ps k) l (stepR (kidSp ps k) ([], [], []) m)
  refine ⟨g, ?_⟩
  rw [show readyW (kidSp ps k) (m :: l) = readyF (kidSp ps k) (stepR (kidSp ps k) ([], [], []) m) l from rfl, h, step_go hg]
  rfl
def cntM (m : Ms) (ps : List Bs) (k : Nat) : Nat := ((kidsS ps).take k).countP fun s => meetB s (writesS m)
theorem cntM_step (m : Ms) (ps : List Bs) {k : Nat} (hk : k < ps.length + 1) : cntM m ps (k + 1) = cntM m ps k + if meetB (kidSp ps k) (writesS m) then 1 else 0 := by
  unfold cntM
  have hk' : k < (kidsS ps).length := by rw [kids_len]; exact hk
  rw [List.take_succ_eq_append_getElem hk', List.countP_append, List.countP_singleton, kidSp_at hk]
theorem cntM_len (m : Ms) (ps : List Bs) (k : Nat) : cntM m ps k ≤ k := Nat.le_trans List.countP_le_length (by rw [List.length_take]; omega)
theorem cntM_pos {m : Ms} {ps : List Bs} (hs : SrtP ps) (hw : WritesK m) : 0 < cntM m ps (ps.length + 1) := by
  unfold cntM
  rw [List.take_of_length_le (by rw [kids_len]; omega), List.countP_pos_iff]
  obtain ⟨k, hk⟩ := hw
  have hn : kidN k ps < ps.length + 1 := Nat.lt_succ_of_le (kidN_le k ps)
  exact ⟨kidSp ps (kidN k ps), by rw [kidSp_at hn]; exact List.getElem_mem _, (meet_iff _ _).2 ⟨k, hk, kid_own hs k⟩⟩
theorem own_madeM {W w2 : World} {m : Ms} (hb : Below (W.alloc (.cells (encM m) 40)).drew.heap.size (W.alloc (.cells (encM m) 40)).drew w2) : OwnM w2 W.heap.size (.slice (some ⟨W.heap.size, 0, none⟩) 1 1) [m] :=
  ⟨rfl, .inr ⟨W.heap.size, 1, encM m, rfl, Nat.le_refl _, blk_made hb, Nat.le_refl _, by unfold maxLen; omega, rfl, rfl⟩⟩
theorem own_oneM (W : World) (m : Ms) (B : Nat) (hB : B ≤ W.heap.size) : OwnM (W.alloc (.cells (encM m) 40)) B (.slice (some ⟨W.heap.size, 0, none⟩) 1 1) [m] :=
  ⟨rfl, .inr ⟨W.heap.size, 1, encM m, rfl, hB, Blk.new _ _ _, Nat.le_refl _, by unfold maxLen; omega, rfl, rfl⟩⟩

set_option warningAsError false in
set_option maxRecDepth 100000 in
set_option maxHeartbeats 8000000 in
theorem routeFirst_walk (w : World) (v0 : Value) (x0 : R6) (r0 : IsRaw6 w v0 x0) (v1 : Value) (x1 : List R6) (r1 : IsR6s w v1 x1) (v2 : Value) (x2 : Bs) (r2 : IsBytes w v2 x2) :
    Calls Tryz.prog 9 #[v0, v1, v2] w fun e w' => e = .returned (.bool true) ∧ Below w.heap.size w w' := by
  have mixed := mixedA
  obtain ⟨m1, m2, m3, m4, m5, m6⟩ := x0
  obtain ⟨rfl, hsm⟩ := r0
  change Small6 m1 m2 m3 m4 m5 m6 at hsm
  show Calls _ _ #[.agg (raw6 m1 m2 m3 m4 m5 m6), v1, v2] _ _
  have R1 := Lib.hid r1
  have R2 := Lib.hid r2
  obtain ⟨a1, q1, rfl, -⟩ := r1
  obtain ⟨a2, q2, rfl, -⟩ := r2
  have hbx := below_box (w := w) (.cells (raw6 m1 m2 m3 m4 m5 m6) 51)
  have HBX := Lib.hid hbx
  have hX : Blk (w.alloc (.cells (raw6 m1 m2 m3 m4 m5 m6) 51)) w.heap.size 51 (raw6 m1 m2 m3 m4 m5 m6) := Blk.new _ _ _
  have HX := Lib.hid hX
  obtain ⟨W0, hW0⟩ : ∃ W0, W0 = w.alloc (.cells (raw6 m1 m2 m3 m4 m5 m6) 51) := ⟨_, rfl⟩
  have HW0 := Lib.hid hW0
  have HSAN := Lib.hid (sanity_w W0)
  have Hmd : Hid (∀ wx, Calls Tryz.prog 29 #[.agg #[.int .u8 m1, .int .u8 m2, .int .u8 m3, .int .u8 m4, .int .u8 m5, .int .u8 m6]] wx fun e' w' => e' = .returned (msgV (madeM m1 m2 m3 m4 m5 m6)) ∧ Below wx.heap.size wx w') := Lib.hid (fun wx => made_w m1 m2 m3 m4 m5 m6 wx hsm)
  have hokM : OkR (madeM m1 m2 m3 m4 m5 m6) := madeX_okR (m1, m2, m3, m4, m5, m6)
  have hvM : validM (madeM m1 m2 m3 m4 m5 m6) = true := made_valid _ _ _ _ _ _
  generalize madeM m1 m2 m3 m4 m5 m6 = m at *
  clear hX hbx hW0 hsm
  go_enter Tryz.func9, Tryz.ntmps9
  go_wp2_with fail
  rw [← HW0.out]
  refine HSAN.out.mono ?_
  rintro e w1 ⟨rfl, hb1⟩
  have hx1 : Blk w1 w.heap.size 51 (raw6 m1 m2 m3 m4 m5 m6) := Blk.below (by rw [HW0.out]; exact HX.out) hb1 (by rw [HW0.out]; simp)
  have HB1 : Hid (Below w.heap.size w w1) := Lib.hid (Below.trans (by rw [HW0.out]; exact HBX.out) (hb1.mono (by rw [HW0.out]; simp)))
  have c0 := hx1.c0 0 _ rfl
  have c1 := hx1.c0 1 _ rfl
  have c2 := hx1.c0 2 _ rfl
  have c3 := hx1.c0 3 _ rfl
  have c4 := hx1.c0 4 _ rfl
  have c5 := hx1.c0 5 _ rfl
  clear hb1 hx1 HSAN HW0 HX HBX
  go_wp2_with fail
  refine (Hmd.out _).mono ?_
  rintro e w2 ⟨rfl, hb2⟩
  have HB2 := Lib.hid (HB1.out.trans (hb2.mono HB1.out.size))
  clear hb2 c0 c1 c2 c3 c4 c5 HB1
  go_wp2_with fail
  refine (pivots8_w _ x2 w2 (R2.out.below HB2.out)).mono ?_
  rintro e w3 ⟨vp, rfl, hs3, hb3⟩
  have HB3 := Lib.hid (HB2.out.trans (hb3.mono HB2.out.size))
  have hps := pivR_srt x2
  have hpl := pivR_len x2
  have hkz := kid_size x2
  generalize pivR x2 = ps at *
  have HPS := Lib.hid hps
  have HKZ := Lib.hid hkz
  have HOM := Lib.hid hokM
  have HVM := Lib.hid hvM
  obtain ⟨ap, cp, rfl, hcp, hcpm, -⟩ := id hs3
  obtain ⟨w4, hw4⟩ : ∃ w4, w4 = w3.alloc (.cells (encM m) 40) := ⟨_, rfl⟩
  have hX4 : Blk w4 w3.heap.size 40 (encM m) := by rw [hw4]; exact Blk.new _ _ _
  have hb4 : Below w3.heap.size w3 w4 := by rw [hw4]; exact below_box _
  have HX4 := Lib.hid hX4
  have HB4 := Lib.hid (HB3.out.trans (hb4.mono HB3.out.size))
  have HS4 := Lib.hid (hs3.below hb4)
  have HW4 := Lib.hid hw4
  clear hb3 HB2 hps hkz hokM hvM hs3 hX4 hb4 hw4
  go_wp2_with fail
  rw [show w3.alloc (.cells #[.int .i64 m.kind, .string (Str m.key), .string (Str m.val), .string (Str m.lo), .string (Str m.hi), .string (Str m.src), .string (Str m.dst), .int .i64 m.n] 40) = w4 from HW4.out.symm]
  have hLo := listS_okR x1 9
  have hLl := listS_len x1 9
  have HR1 := Lib.hid (fun wx (h : Below w4.heap.size w4 wx) => list_w (.slice a1 x1.length q1) x1 9 wx (R1.out.below (HB4.out.trans (h.mono HB4.out.size))) (by decide))
  generalize listS x1 9 = L at *
  have HOL := Lib.hid hLo
  have HRX : Hid (∀ wx, Below w4.heap.size w4 wx → Calls Tryz.prog 12 #[.slice a1 x1.length q1, .int .i64 9] wx fun e w' => ∃ p c, e = .returned (.slice p L.length c) ∧ IsMsgs w' (.slice p L.length c) L ∧ Below w4.heap.size w4 w' ∧ Below wx.heap.size wx w') := Lib.hid (fun wx hx => (HR1.out wx hx).mono fun e w' ⟨u1, h1, h2, h4⟩ => by
    obtain ⟨p, c, rfl, -⟩ := h2.msgs
    exact ⟨p, c, h1, h2.msgs, keepB hx h4, h4⟩)
  have hx : ∀ i x, (encM m)[i]? = some x → ∀ wx, Below w4.heap.size w4 wx → wx.cell? ⟨w3.heap.size, i, none⟩ = some x := fun i x hi wx hg => (Blk.below HX4.out hg HX4.out.lt).c0 i x hi
  have x0 : ∀ wx, Below w4.heap.size w4 wx → wx.cell? ⟨w3.heap.size, 0, none⟩ = some (.int .i64 m.kind) := hx 0 _ rfl
  have x1' : ∀ wx, Below w4.heap.size w4 wx → wx.cell? ⟨w3.heap.size, 1, none⟩ = some (.string (Str m.key)) := hx 1 _ rfl
  have x2' : ∀ wx, Below w4.heap.size w4 wx → wx.cell? ⟨w3.heap.size, 2, none⟩ = some (.string (Str m.val)) := hx 2 _ rfl
  have x3 : ∀ wx, Below w4.heap.size w4 wx → wx.cell? ⟨w3.heap.size, 3, none⟩ = some (.string (Str m.lo)) := hx 3 _ rfl
  have x4 : ∀ wx, Below w4.heap.size w4 wx → wx.cell? ⟨w3.heap.size, 4, none⟩ = some (.string (Str m.hi)) := hx 4 _ rfl
  have x5 : ∀ wx, Below w4.heap.size w4 wx → wx.cell? ⟨w3.heap.size, 5, none⟩ = some (.string (Str m.src)) := hx 5 _ rfl
  have x6 : ∀ wx, Below w4.heap.size w4 wx → wx.cell? ⟨w3.heap.size, 6, none⟩ = some (.string (Str m.dst)) := hx 6 _ rfl
  have x7 : ∀ wx, Below w4.heap.size w4 wx → wx.cell? ⟨w3.heap.size, 7, none⟩ = some (.int .i64 m.n) := hx 7 _ rfl
  have HL0 : Hid (Below w4.heap.size w4 w4) := Lib.hid (Below.refl _ _)
  have HXX := Lib.hid hx
  clear hx hLo HR1 HW4 R1 R2 Hmd
  go_cut [10] (fun s10 wx => Hid (BothAt w4 s10 (m :: L) wx))
  case first =>
    go_region_held3 (fun wx => Below w4.heap.size w4 wx)
      (repeat (first | with_reducible assumption | with_reducible exact HL0.out | with_reducible refine Below.drew ?_ | with_reducible refine keepA ?_ _))
      (first
        | (go_at_call 12; (refine (HRX.out _ (by repeat (first | with_reducible assumption | with_reducible exact HL0.out | with_reducible refine Below.drew ?_ | with_reducible refine keepA ?_ _))).mono ?_); rintro e2 y2 ⟨p2, c2, rfl, g2, hS2, hT2⟩; (first | (have ho1 := own_madeM hT2) | skip))
        | (refine step_msgs rfl _ _ rfl w4.heap.size (.slice (some ⟨w4.heap.size, 0, none⟩) 1 1) [m] rfl (by first | exact ho1 | exact OwnM.below ho1 (below_drewN _ 1)) p2 L.length c2 L rfl (by first | exact g2 | exact g2.below (below_drewN _ 1)) (by simp only [List.length_cons, List.length_nil]; omega) (by first | exact hS2.size | exact (Below.drew hS2).size) ?_; intro v5 y5 ho5 ht5; have hS5 : Below w4.heap.size w4 y5 := rowB5 (by first | exact ho1 | exact OwnM.below ho1 (below_drewN _ 1)) ht5 (by first | exact hS2 | exact Below.drew hS2))
        | (refine step_msgs rfl _ _ rfl w4.heap.size (.slice (some ⟨y2.heap.size, 0, none⟩) 1 1) [m] rfl (by first | exact own_oneM y2 m _ hS2.size | exact OwnM.below (own_oneM y2 m _ hS2.size) (below_drewN _ 1)) p2 L.length c2 L rfl (by first | exact g2.below (below_box _) | exact (g2.below (below_box _)).below (below_drewN _ 1)) (by simp only [List.length_cons, List.length_nil]; omega) (by first | exact (keepA hS2 _).size | exact (Below.drew (keepA hS2 _)).size) ?_; intro v5 y5 ho5 ht5; have hS5 : Below w4.heap.size w4 y5 := rowB5 (by first | exact own_oneM y2 m _ hS2.size | exact OwnM.below (own_oneM y2 m _ hS2.size) (below_drewN _ 1)) ht5 (by first | exact keepA hS2 _ | exact Below.drew (keepA hS2 _)))
        | fail "no arm")
    all_goals (go_wp2_with fail; go_meet)
    all_goals
      refine Lib.hid ?_
      have ho6 := OwnM.msgs ho5
      obtain ⟨a5, c5, rfl, -⟩ := id ho6
      exact ⟨a5, c5, rfl, ho6, hS5⟩
  case rest =>
    obtain ⟨aB, cB, rfl, h5, hb5⟩ := hcut.out
    have HM5 := Lib.hid h5
    have HB5 := Lib.hid (HB4.out.trans (hb5.mono HB4.out.size))
    have HS5 := Lib.hid (HS4.out.below hb5)
    have HX5 := Lib.hid (HX4.out.below hb5 HX4.out.lt)
    clear hcut h5 hb5 x0 x1' x2' x3 x4 x5 x6 x7 HRX HL0 HXX
    have HOB : Hid (∀ o ∈ m :: L, OkR o) := Lib.hid (fun o ho => by
      rcases List.mem_cons.1 ho with rfl | ho
      · exact HOM.out
      · exact (HOL.out o ho).1)
    have HFX := Lib.hid (fun (hc : crossB m ps = true) k (hk : k < ps.length + 1) => first_cross HPS.out hc hk L)
    have HFG := Lib.hid (fun (hc : crossB m ps = false) k (hk : k < ps.length + 1) (hm : meetB (kidSp ps k) (writesS m) = true) => first_goes HPS.out hc hk hm L)
    have hBl : (m :: L).length ≤ 10 := by simp only [List.length_cons]; omega
    generalize m :: L = B at *
    have HSPN := Lib.hid (fun wx (h : IsStrs wx (.slice ap ps.length cp) ps) => spans8_w _ ps wx h (by omega))
    have HPAR := Lib.hid (fun s wx => part_w m s wx HOM.out.1)
    have HCRS := Lib.hid (fun wx (h : IsStrs wx (.slice ap ps.length cp) ps) => crosses_w m _ ps wx HOM.out.1 h HPS.out (by omega))
    obtain ⟨gn, hgn⟩ : ∃ gn : Nat → Nat, gn = fun k => if crossB m ps then 0 else cntM m ps k := ⟨_, rfl⟩
    have g0 : gn 0 = 0 := by rw [hgn]; dsimp only; split; rfl; exact Nat.le_zero.1 (cntM_len m ps 0)
    have HGL : Hid (∀ k, gn k ≤ k) := Lib.hid (fun k => by rw [hgn]; dsimp only; split; exact Nat.zero_le _; exact cntM_len m ps k)
    have HGC : Hid (crossB m ps = true → ∀ k, gn (k + 1) = gn k) := Lib.hid (fun h k => by rw [hgn]; dsimp only; rw [if_pos h, if_pos h])
    have HGN : Hid (crossB m ps = false → ∀ k, k < ps.length + 1 → gn (k + 1) = gn k + if meetB (kidSp ps k) (writesS m) then 1 else 0) := Lib.hid (fun h k hk => by rw [hgn]; dsimp only; rw [if_neg (by rw [h]; simp), if_neg (by rw [h]; simp)]; exact cntM_step m ps hk)
    have HGE : Hid ((crossB m ps = true → gn (ps.length + 1) = 0) ∧ (crossB m ps = false → 0 < gn (ps.length + 1))) := Lib.hid ⟨fun h => by rw [hgn]; dsimp only; rw [if_pos h], fun h => by rw [hgn]; dsimp only; rw [if_neg (by rw [h]; simp)]; exact cntM_pos HPS.out (writes_valid HVM.out)⟩
    clear hgn
    have HG0 := Lib.hid g0
    clear g0
    have HKE := Lib.hid (fun k (h : k < ps.length + 1) => kidSp_at (ps := ps) h)
    have HKL := Lib.hid (kids_len ps)
    go_wp2
    go_loopw [11, 12] (fun g i wr => ∃ k : Nat, i = .int .i64 k ∧ k ≤ ps.length + 1 ∧ g = .int .i64 (gn k : Nat) ∧ Below wc.heap.size wc wr) (fun _ i _ => ps.length + 1 - (intOf i).toNat)
    case atStart => exact ⟨0, rfl, Nat.zero_le _, by rw [HG0.out]; rfl, Below.refl _ _⟩
    case round =>
      obtain ⟨k, rfl, hk, rfl, hbel⟩ := hrel
      have Hbel := Lib.hid hbel
      have hsz := hbel.size
      clear hbel
      by_cases hle : k < ps.length + 1
      · have hlez : (k : Int) ≤ (ps.length : Int) := by omega
        have hlen := ready_len (kidSp ps k) B
        have HR1 := Lib.hid (fun wx (h1 : IsMsgs wx (.slice aB B.length cB) B) (h2 : IsStrs wx (.slice ap ps.length cp) ps) => lready_w _ _ B ps k wx h1 h2 (fun o ho => (HOB.out o ho).1) (fun o ho => (HOB.out o ho).2.1) (by omega) (HKZ.out k) (by omega) (by omega))
        have HFXk := Lib.hid (fun hc => HFX.out hc k hle)
        have HFGk := Lib.hid (fun hc => HFG.out hc k hle)
        have HGNk := Lib.hid (fun hc => HGN.out hc k hle)
        have hgl := HGL.out k
        unfold WayOut at HR1
        have HEK : Hid (kidSp ps k = (kidsS ps)[k]'(by rw [HKL.out]; exact hle)) := Lib.hid (HKE.out k hle)
        generalize kidSp ps k = S at *
        generalize readyW S B = W1 at *
        obtain ⟨G, St, Bl⟩ := W1
        dsimp only at HR1 HFXk HFGk hlen
        go_wp2_with fail
        refine (HR1.out _ (HM5.out.below Hbel.out) (HS5.out.below Hbel.out)).mono ?_
        rintro e w6 ⟨g1, s1, rfl, hg1, hs1, hb6⟩
        have HG6 := Lib.hid hg1.msgs
        have HS6 := Lib.hid hs1.msgs
        have HB6 := Lib.hid (Hbel.out.trans (hb6.mono Hbel.out.size))
        obtain ⟨ag, cg, rfl, -⟩ := hg1.msgs
        obtain ⟨asx, csx, rfl, -⟩ := hs1.msgs
        clear hg1 hs1 hb6
        have hX : Blk (w6.alloc (.cells #[.slice ag G.length cg, .slice asx St.length csx, .slice none 0 0] 34)) w6.heap.size 34 #[.slice ag G.length cg, .slice asx St.length csx, .slice none 0 0] := Blk.new _ _ _
        have hbx6 := below_box (w := w6) (.cells #[.slice ag G.length cg, .slice asx St.length csx, .slice none 0 0] 34)
        have HX := Lib.hid hX
        have HB7 := Lib.hid (HB6.out.trans (hbx6.mono HB6.out.size))
        have HG7 := Lib.hid (HG6.out.below hbx6)
        have HS7 := Lib.hid (HS6.out.below hbx6)
        clear hX hbx6
        go_wp2_with fail
        generalize w6.alloc (.cells #[.slice ag G.length cg, .slice asx St.length csx, .slice none 0 0] 34) = w7 at *
        generalize w6.heap.size = bx at *
        have HM7 := Lib.hid (HX5.out.below HB7.out HX5.out.lt)
        have hx : ∀ i x, (encM m)[i]? = some x → ∀ wx, Below w7.heap.size w7 wx → wx.cell? ⟨w3.heap.size, i, none⟩ = some x := fun i x hi wx hg => (Blk.below HM7.out hg HM7.out.lt).c0 i x hi
        have x0 : ∀ wx, Below w7.heap.size w7 wx → wx.cell? ⟨w3.heap.size, 0, none⟩ = some (.int .i64 m.kind) := hx 0 _ rfl
        have x1' : ∀ wx, Below w7.heap.size w7 wx → wx.cell? ⟨w3.heap.size, 1, none⟩ = some (.string (Str m.key)) := hx 1 _ rfl
        have x2' : ∀ wx, Below w7.heap.size w7 wx → wx.cell? ⟨w3.heap.size, 2, none⟩ = some (.string (Str m.val)) := hx 2 _ rfl
        have x3 : ∀ wx, Below w7.heap.size w7 wx → wx.cell? ⟨w3.heap.size, 3, none⟩ = some (.string (Str m.lo)) := hx 3 _ rfl
        have x4 : ∀ wx, Below w7.heap.size w7 wx → wx.cell? ⟨w3.heap.size, 4, none⟩ = some (.string (Str m.hi)) := hx 4 _ rfl
        have x5 : ∀ wx, Below w7.heap.size w7 wx → wx.cell? ⟨w3.heap.size, 5, none⟩ = some (.string (Str m.src)) := hx 5 _ rfl
        have x6 : ∀ wx, Below w7.heap.size w7 wx → wx.cell? ⟨w3.heap.size, 6, none⟩ = some (.string (Str m.dst)) := hx 6 _ rfl
        have x7 : ∀ wx, Below w7.heap.size w7 wx → wx.cell? ⟨w3.heap.size, 7, none⟩ = some (.int .i64 m.n) := hx 7 _ rfl
        have HXX := Lib.hid hx
        have HL0 : Hid (Below w7.heap.size w7 w7) := Lib.hid (Below.refl _ _)
        have HKW := Lib.hid (fun wx (h : Below w7.heap.size w7 wx) => HSPN.out wx ((HS5.out.below HB7.out).below h))
        clear hx
        have hkk : k < (kidsS ps).length := by rw [HKL.out]; exact hle
        have hklz : (k : Int) < ((kidsS ps).length : Int) := by omega
        go_region_held3 (fun wx => Below w7.heap.size w7 wx)
          (repeat (first | with_reducible assumption | with_reducible exact HL0.out | with_reducible refine Below.drew ?_ | with_reducible refine keepA ?_ _))
          (first
            | (go_at_call 14; (refine (HKW.out _ (by repeat (first | with_reducible assumption | with_reducible exact HL0.out | with_reducible refine Below.drew ?_ | with_reducible refine keepA ?_ _))).mono ?_); rintro e2 y2 ⟨v2, rfl, ho2, hb2⟩; have hS2 : Below w7.heap.size w7 y2 := keepB (by repeat (first | with_reducible assumption | with_reducible exact HL0.out | with_reducible refine Below.drew ?_ | with_reducible refine keepA ?_ _)) hb2; obtain ⟨b2, off2, cap2, rfl, hbl2, hlz2, y0, y1⟩ := span_cells (IsSpans.owned ho2) k hkk; rw [show (kidsS ps)[k] = S from HEK.out.symm] at y0 y1)
            | (go_at_call 23; (refine (HPAR.out S _).mono ?_); rintro e3 y3 ⟨v3, rfl, hm3, hg3⟩; obtain ⟨p3, c3, rfl, -⟩ := id hm3; have hS3 : Below w7.heap.size w7 y3 := keepG (by repeat (first | with_reducible assumption | with_reducible exact HL0.out | with_reducible refine Below.drew ?_ | with_reducible refine keepA ?_ _)) hg3)
            | fail "no arm")
        have d0 := x0 y3 hS3
        have d1 := x1' y3 hS3
        have d2 := x2' y3 hS3
        have d3 := x3 y3 hS3
        have d4 := x4 y3 hS3
        have d5 := x5 y3 hS3
        have d6 := x6 y3 hS3
        have d7 := x7 y3 hS3
        have HM3 := Lib.hid hm3
        have HY3 := Lib.hid hS3
        clear hm3 hS3 hS2 y0 y1 hbl2 hlz2 ho2 hb2 hg3 HL0 HKW x0 x1' x2' x3 x4 x5 x6 x7 HR1 hkk hklz
        go_wp2_with fail
        refine (HCRS.out _ ((HS5.out.below HB7.out).below HY3.out)).mono ?_
        rintro e4 y4 ⟨rfl, hb4⟩
        have HY4 := Lib.hid (keepB HY3.out hb4)
        have HX8 := Lib.hid (HX.out.below HY4.out HX.out.lt)
        have HB9 := Lib.hid (HB7.out.trans (HY4.out.mono HB7.out.size))
        have HM4 := Lib.hid (HM3.out.below hb4)
        have HQ := Lib.hid (fun i x (h : (encM m)[i]? = some x) => HXX.out i x h y4 HY4.out)
        clear hb4 d0 d1 d2 d3 d4 d5 d6 d7
        cases hcr : crossB m ps with
        | true =>
          obtain ⟨t, rfl⟩ := HFXk.out hcr
          have HGK := Lib.hid (HGC.out hcr k)
          have HSY := Lib.hid (HS7.out.below HY4.out)
          obtain ⟨b, off, cap, he, hbl1, hlz, hm⟩ := msg_cells HSY.out 0 (by simp)
          injection he with he1 he2 he3
          subst he1 he3
          clear he2
          generalize hn : (m :: t).length = ln at *
          have hn0 : 0 < ln := by rw [← hn]; simp
          have hlnz : ((ln : Int) == 0) = false := by simp; omega
          have hlnp : (0 : Int) < (ln : Int) := by omega
          clear hn
          simp only [Nat.zero_mul, Nat.add_zero, List.getElem_cons_zero] at hm
          obtain ⟨c0, c1, c2, c3, c4, c5, c6, c7⟩ := hm
          have c0 := fun n => (show (y4.drewN n).cell? ⟨b, off, none⟩ = some (.int .i64 m.kind) from c0)
          have c1 := fun n => (show (y4.drewN n).cell? ⟨b, off + 1, none⟩ = some (.string (Str m.key)) from c1)
          have c2 := fun n => (show (y4.drewN n).cell? ⟨b, off + 2, none⟩ = some (.string (Str m.val)) from c2)
          have c3 := fun n => (show (y4.drewN n).cell? ⟨b, off + 3, none⟩ = some (.string (Str m.lo)) from c3)
          have c4 := fun n => (show (y4.drewN n).cell? ⟨b, off + 4, none⟩ = some (.string (Str m.hi)) from c4)
          have c5 := fun n => (show (y4.drewN n).cell? ⟨b, off + 5, none⟩ = some (.string (Str m.src)) from c5)
          have c6 := fun n => (show (y4.drewN n).cell? ⟨b, off + 6, none⟩ = some (.string (Str m.dst)) from c6)
          have c7 := fun n => (show (y4.drewN n).cell? ⟨b, off + 7, none⟩ = some (.int .i64 m.n) from c7)
          have d0 := fun n => (show (y4.drewN n).cell? ⟨w3.heap.size, 0, none⟩ = some (.int .i64 m.kind) from HQ.out 0 _ rfl)
          have d1 := fun n => (show (y4.drewN n).cell? ⟨w3.heap.size, 1, none⟩ = some (.string (Str m.key)) from HQ.out 1 _ rfl)
          have d2 := fun n => (show (y4.drewN n).cell? ⟨w3.heap.size, 2, none⟩ = some (.string (Str m.val)) from HQ.out 2 _ rfl)
          have d3 := fun n => (show (y4.drewN n).cell? ⟨w3.heap.size, 3, none⟩ = some (.string (Str m.lo)) from HQ.out 3 _ rfl)
          have d4 := fun n => (show (y4.drewN n).cell? ⟨w3.heap.size, 4, none⟩ = some (.string (Str m.hi)) from HQ.out 4 _ rfl)
          have d5 := fun n => (show (y4.drewN n).cell? ⟨w3.heap.size, 5, none⟩ = some (.string (Str m.src)) from HQ.out 5 _ rfl)
          have d6 := fun n => (show (y4.drewN n).cell? ⟨w3.heap.size, 6, none⟩ = some (.string (Str m.dst)) from HQ.out 6 _ rfl)
          have d7 := fun n => (show (y4.drewN n).cell? ⟨w3.heap.size, 7, none⟩ = some (.int .i64 m.n) from HQ.out 7 _ rfl)
          have e1 := fun n => (show (y4.drewN n).cell? ⟨bx, 1, none⟩ = some (.slice (some ⟨b, off, none⟩) ln csx) from HX8.out.c0 1 _ rfl)
          have heq := fun wx => neq_msg m m wx
          have hgu := fun o p wx => guard_msg .neq o p (encM m) (encM m) wx
          rw [decide_eq_true rfl] at heq
          dsimp only [msgV, encM] at heq hgu
          clear hcr
          go_wp2_with fail
          go_quiet (fail)
          have HF := Lib.hid (HB9.out.trans ((below_drewN y4 nq).mono HB9.out.size))
          clear heq hgu e1 c0 c1 c2 c3 c4 c5 c6 c7 d0 d1 d2 d3 d4 d5 d6 d7
          go_wp2
          go_roundw
          case rel => exact ⟨k + 1, by go_num, by omega, by rw [HGK.out], HF.out⟩
          case measure => simp [intOf]; omega
        | false =>
          have HGK := Lib.hid (HGNk.out hcr)
          cases hmt : meetB S (writesS m) with
          | false =>
            rw [hmt] at HGK
            have hpr : partR m S = [] := by unfold partR; rw [if_neg (by rw [hmt]; simp)]
            rw [hpr]
            clear hcr hmt hpr
            simp only [List.length_nil]
            go_wp2
            go_roundw
            case rel => exact ⟨k + 1, by go_num, by omega, by rw [HGK.out]; rfl, HB9.out⟩
            case measure => simp [intOf]; omega
          | true =>
            obtain ⟨g, rfl⟩ := HFGk.out hcr hmt
            rw [hmt] at HGK
            have hpr : partR m S = [onlyS m S] := by unfold partR; rw [if_pos hmt]
            rw [hpr] at HM4
            rw [hpr]
            have HGY := Lib.hid (HG7.out.below HY4.out)
            generalize onlyS m S = o at *
            obtain ⟨b, off, cap, he, hbl1, hlz, hm⟩ := msg_cells HGY.out 0 (by simp)
            injection he with he1 he2 he3
            subst he1 he3
            clear he2
            generalize hn : (o :: g).length = ln at *
            have hn0 : 0 < ln := by rw [← hn]; simp
            have hlnz : ((ln : Int) == 0) = false := by simp; omega
            have hlnp : (0 : Int) < (ln : Int) := by omega
            clear hn
            simp only [Nat.zero_mul, Nat.add_zero, List.getElem_cons_zero] at hm
            obtain ⟨c0, c1, c2, c3', c4, c5, c6, c7⟩ := hm
            have c3 := c3'
            obtain ⟨b', off', cap', he, hbl1', hlz', hm⟩ := msg_cells HM4.out 0 (by simp)
            injection he with he1 he2 he3
            subst he1 he3
            clear he2
            simp only [Nat.zero_mul, Nat.add_zero, List.getElem_cons_zero] at hm
            obtain ⟨d0, d1, d2, d3, d4, d5, d6, d7⟩ := hm
            have c0 := fun n => (show (y4.drewN n).cell? ⟨b, off, none⟩ = some (.int .i64 o.kind) from c0)
            have c1 := fun n => (show (y4.drewN n).cell? ⟨b, off + 1, none⟩ = some (.string (Str o.key)) from c1)
            have c2 := fun n => (show (y4.drewN n).cell? ⟨b, off + 2, none⟩ = some (.string (Str o.val)) from c2)
            have c3 := fun n => (show (y4.drewN n).cell? ⟨b, off + 3, none⟩ = some (.string (Str o.lo)) from c3)
            have c4 := fun n => (show (y4.drewN n).cell? ⟨b, off + 4, none⟩ = some (.string (Str o.hi)) from c4)
            have c5 := fun n => (show (y4.drewN n).cell? ⟨b, off + 5, none⟩ = some (.string (Str o.src)) from c5)
            have c6 := fun n => (show (y4.drewN n).cell? ⟨b, off + 6, none⟩ = some (.string (Str o.dst)) from c6)
            have c7 := fun n => (show (y4.drewN n).cell? ⟨b, off + 7, none⟩ = some (.int .i64 o.n) from c7)
            have d0 := fun n => (show (y4.drewN n).cell? ⟨b', off', none⟩ = some (.int .i64 o.kind) from d0)
            have d1 := fun n => (show (y4.drewN n).cell? ⟨b', off' + 1, none⟩ = some (.string (Str o.key)) from d1)
            have d2 := fun n => (show (y4.drewN n).cell? ⟨b', off' + 2, none⟩ = some (.string (Str o.val)) from d2)
            have d3 := fun n => (show (y4.drewN n).cell? ⟨b', off' + 3, none⟩ = some (.string (Str o.lo)) from d3)
            have d4 := fun n => (show (y4.drewN n).cell? ⟨b', off' + 4, none⟩ = some (.string (Str o.hi)) from d4)
            have d5 := fun n => (show (y4.drewN n).cell? ⟨b', off' + 5, none⟩ = some (.string (Str o.src)) from d5)
            have d6 := fun n => (show (y4.drewN n).cell? ⟨b', off' + 6, none⟩ = some (.string (Str o.dst)) from d6)
            have d7 := fun n => (show (y4.drewN n).cell? ⟨b', off' + 7, none⟩ = some (.int .i64 o.n) from d7)
            have e1 := fun n => (show (y4.drewN n).cell? ⟨bx, 0, none⟩ = some (.slice (some ⟨b, off, none⟩) ln cg) from HX8.out.c0 0 _ rfl)
            have heq := fun wx => neq_msg o o wx
            have hgu := fun x p wx => guard_msg .neq x p (encM o) (encM o) wx
            rw [decide_eq_true rfl] at heq
            dsimp only [msgV, encM] at heq hgu
            clear hcr hmt hpr
            simp only [List.length_cons, List.length_nil]
            go_wp2_with fail
            go_quiet (fail)
            have HF := Lib.hid (HB9.out.trans ((below_drewN y4 nq).mono HB9.out.size))
            clear heq hgu e1 c0 c1 c2 c3 c4 c5 c6 c7 d0 d1 d2 d3 d4 d5 d6 d7
            go_wp2
            go_roundw
            case rel => exact ⟨k + 1, by go_num, by omega, by rw [HGK.out]; go_num, HF.out⟩
            case measure => simp [intOf]; omega
      · obtain rfl : k = ps.length + 1 := by omega
        have hlez : (ps.length : Int) < ((ps.length + 1 : Nat) : Int) := by omega
        have HG9 := HGE.out
        have hgl := HGL.out (ps.length + 1)
        have HMz := Lib.hid (HX5.out.below Hbel.out HX5.out.lt)
        have d0 : wr.cell? ⟨w3.heap.size, 0, none⟩ = some (.int .i64 m.kind) := HMz.out.c0 0 _ rfl
        have d1 : wr.cell? ⟨w3.heap.size, 1, none⟩ = some (.string (Str m.key)) := HMz.out.c0 1 _ rfl
        have d2 : wr.cell? ⟨w3.heap.size, 2, none⟩ = some (.string (Str m.val)) := HMz.out.c0 2 _ rfl
        have d3 : wr.cell? ⟨w3.heap.size, 3, none⟩ = some (.string (Str m.lo)) := HMz.out.c0 3 _ rfl
        have d4 : wr.cell? ⟨w3.heap.size, 4, none⟩ = some (.string (Str m.hi)) := HMz.out.c0 4 _ rfl
        have d5 : wr.cell? ⟨w3.heap.size, 5, none⟩ = some (.string (Str m.src)) := HMz.out.c0 5 _ rfl
        have d6 : wr.cell? ⟨w3.heap.size, 6, none⟩ = some (.string (Str m.dst)) := HMz.out.c0 6 _ rfl
        have d7 : wr.cell? ⟨w3.heap.size, 7, none⟩ = some (.int .i64 m.n) := HMz.out.c0 7 _ rfl
        have HC := Lib.hid (HCRS.out wr (HS5.out.below Hbel.out))
        generalize gn (ps.length + 1) = q at *
        cases hcr : crossB m ps with
        | true =>
          obtain rfl : q = 0 := HG9.1 hcr
          rw [hcr] at HC
          clear HG9 hcr
          go_wp2_with fail
          refine HC.out.mono ?_
          rintro e4 y4 ⟨rfl, hb4⟩
          have HF := Lib.hid (HB5.out.trans ((Hbel.out.trans (hb4.mono hsz)).mono HB5.out.size))
          clear hb4 d0 d1 d2 d3 d4 d5 d6 d7
          go_wp2
          go_ret
          exact ⟨by first | rfl | simp, HF.out⟩
        | false =>
          have hq : 0 < q := HG9.2 hcr
          have hqz : (0 : Int) < (q : Int) := by omega
          rw [hcr] at HC
          clear HG9 hcr
          go_wp2_with fail
          refine HC.out.mono ?_
          rintro e4 y4 ⟨rfl, hb4⟩
          have HF := Lib.hid (HB5.out.trans ((Hbel.out.trans (hb4.mono hsz)).mono HB5.out.size))
          clear hb4 d0 d1 d2 d3 d4 d5 d6 d7
          go_wp2
          go_ret
          exact ⟨by first | rfl | simp, HF.out⟩

end Go.Proofs.YtjncehkldhkobaaGreat
