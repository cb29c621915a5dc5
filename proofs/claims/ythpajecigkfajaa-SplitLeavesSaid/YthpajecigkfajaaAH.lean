/-
  Walks: package split's Inner.
-/
import Derived.Test.YthpajecigkfajaaAG
namespace Go.Proofs.Ythpajecigkfajaa
open Go.RowKit Go.Sort
set_option linter.unusedVariables false
set_option maxRecDepth 100000

/-- Pivots with a text before the first kid. -/
def befP (n : Nd) (m : Int) : List (List Bs) := cutL ([] :: n.pivots) m
def innerAt (n : Nd) (m : Int) (i : Nat) : Nd := ⟨[], ((befP n m).getD i []).drop 1, (cutL n.kids m).getD i [], (cutL n.sums m).getD i [], []⟩
def innerN (n : Nd) (m : Int) : List Nd := (List.range (cutL n.kids m).length).map (innerAt n m)
def headB (p : List Bs) : Bs := p.headD []
def innerP (n : Nd) (m : Int) : List Bs := ((befP n m).drop 1).map headB
theorem cutL_len {α : Type} (l : List α) (m : Nat) (hm : 1 ≤ m) (hl : l ≠ []) : (cutL l (m : Int)).length = upN l.length m := by
  unfold cutL
  rw [if_neg (by rintro (h | h); omega; exact hl h), cutS_len]; rfl
theorem cut_same {α β : Type} (l : List α) (l2 : List β) (m : Nat) (hm : 1 ≤ m) (h : l.length = l2.length) : (cutL l (m : Int)).length = (cutL l2 (m : Int)).length := by
  by_cases hl : l = []
  · subst hl
    obtain rfl : l2 = [] := List.length_eq_zero_iff.1 h.symm
    unfold cutL; rw [if_pos (.inr rfl), if_pos (.inr rfl)]; rfl
  · rw [cutL_len l m hm hl, cutL_len l2 m hm (by rintro rfl; exact hl (List.length_eq_zero_iff.1 h)), h]

theorem any_drew {α : Type} {en : α → List Value} {k : Nat} {w : World} {u : Value} {l : List α} (h : IsAny en k w u l) : IsAny en k w.drew u l := h
def innerV (s t u : Sl3) : Nv := ⟨nil3, s, t, u, nil3⟩
def dropSl (s : Sl3) : Sl3 := match sliced s.1 1 s.2.1 s.2.2 1 with
  | .slice a n c => (a, n, c)
  | _ => nil3
theorem dropSl_eq (s : Sl3) : sliced s.1 1 s.2.1 s.2.2 1 = slV (dropSl s) := rfl
/-- A text ahead of a list of texts. -/
theorem ahead_w (W1 : World) (p : Option Addr) (c : Nat) (pv : List Bs) (h : IsStrs W1 (.slice p pv.length c) pv) (hl : pv.length + 1 ≤ 1000000) :
    Calls Try.prog 31 #[.slice (some ⟨W1.heap.size + 1, 0, none⟩) 2 2] ((W1.alloc (.cells #[.string ⟨#[]⟩] 9)).alloc (.cells #[.slice (some ⟨W1.heap.size, 0, none⟩) 1 1, .slice p pv.length c] 35)).drew
      fun e w' => ∃ v', e = .returned v' ∧ IsStrs w' v' ([] :: pv) ∧ Below W1.heap.size W1 w' := by
  have hb : Blk ((W1.alloc (.cells #[.string ⟨#[]⟩] 9)).alloc (.cells #[.slice (some ⟨W1.heap.size, 0, none⟩) 1 1, .slice p pv.length c] 35)).drew (W1.heap.size + 1) 35 [.slice (some ⟨W1.heap.size, 0, none⟩) 1 1, .slice p pv.length c].toArray :=
    show Blk ((W1.alloc (.cells #[.string ⟨#[]⟩] 9)).alloc (.cells #[.slice (some ⟨W1.heap.size, 0, none⟩) 1 1, .slice p pv.length c] 35)) (W1.heap.size + 1) 35 #[.slice (some ⟨W1.heap.size, 0, none⟩) 1 1, .slice p pv.length c] from Blk.new' _ _ _ (by simp)
  have hbel : Below W1.heap.size W1 ((W1.alloc (.cells #[.string ⟨#[]⟩] 9)).alloc (.cells #[.slice (some ⟨W1.heap.size, 0, none⟩) 1 1, .slice p pv.length c] 35)).drew := bdrew (keepP (keepP (Below.refl _ _) _) _)
  have hone : IsStrs (W1.alloc (.cells #[.string ⟨#[]⟩] 9)) (.slice (some ⟨W1.heap.size, 0, none⟩) 1 1) [[]] := one_strs rfl []
  have hc := concatT_w (W1.heap.size + 1) [.slice (some ⟨W1.heap.size, 0, none⟩) 1 1, .slice p pv.length c] [[[]], pv] _ hb rfl (by simp) (fun i hi hv => by
    match i, hi, hv with
    | 0, _, _ => exact hone.below (bdrew (keepP (Below.refl _ _) _))
    | 1, _, _ => exact h.below hbel) (by simp; omega)
  refine hc.mono ?_
  rintro e w' ⟨v', rfl, -, hs, hb2⟩
  exact ⟨v', rfl, by simpa using hs, hbel.trans (hb2.mono hbel.size)⟩
set_option maxHeartbeats 8000000 in
theorem innerS_w (nv : Value) (n : Nd) (lf : Int) (m : Nat) (bu : Int) (w : World) (h : IsNode w nv n) (hl : n.kids.length ≤ 1000000) (hl1 : 1 ≤ n.kids.length) (hs : n.sums.length = n.kids.length) (hp : n.pivots.length + 1 = n.kids.length) (hu : n.buf.length ≤ 1000000) (hm : m ≤ 1000000) (hm0 : 1 ≤ m) :
    Calls Try.prog 24 #[nv, .agg #[.int .i64 lf, .int .i64 (m : Int), .int .i64 bu]] w fun e w' => ∃ v1 v2 v3, e = .returned (.tuple #[v1, v2, v3]) ∧ IsNodesB w.heap.size w' v1 (innerN n m) ∧ IsRow w.heap.size encT 1 w' v2 (innerP n m) ∧ IsRow w.heap.size encML 8 w' v3 n.buf ∧ Below w.heap.size w w' := by
  have mixed := mixedA
  obtain ⟨va, vb, vc, vd, ve, rfl, hP, hQ, hR, hS, hT⟩ := h
  obtain ⟨p0, c0, rfl, -⟩ := hP
  have HQ := Lib.hid hQ
  have HR := Lib.hid hR
  have HS := Lib.hid hS
  have HT := Lib.hid hT
  obtain ⟨p1, c1, rfl, hb1, hb2, -⟩ := hQ
  obtain ⟨p2, c2, rfl, hc1, hc2, -⟩ := hR
  obtain ⟨p3, c3, rfl, hd1, hd2, -⟩ := hS
  obtain ⟨p4, c4, rfl, he1, he2, -⟩ := hT
  unfold maxLen at hb2 hc2 hd2 he2
  obtain ⟨W0, hW0⟩ : ∃ W0, W0 = (w.alloc (.cells #[.slice p0 n.pairs.length c0, .slice p1 n.pivots.length c1, .slice p2 n.kids.length c2, .slice p3 n.sums.length c3, .slice p4 n.buf.length c4] 43)).alloc (.cells #[.int .i64 lf, .int .i64 (m : Int), .int .i64 bu] 32) := ⟨_, rfl⟩
  have HX : Hid (Blk W0 w.heap.size 43 #[.slice p0 n.pairs.length c0, .slice p1 n.pivots.length c1, .slice p2 n.kids.length c2, .slice p3 n.sums.length c3, .slice p4 n.buf.length c4]) := Lib.hid (by rw [hW0]; exact (Blk.new _ _ _).alloc _)
  have HY : Hid (Blk W0 (w.heap.size + 1) 32 #[.int .i64 lf, .int .i64 (m : Int), .int .i64 bu]) := Lib.hid (by rw [hW0]; exact Blk.new' _ _ _ (by simp))
  have HG : Hid (Below w.heap.size w W0) := Lib.hid (by rw [hW0]; exact (((Grown.refl w).alloc _).alloc _).below (Nat.le_refl _))
  have HW0 := Lib.hid hW0
  clear hW0
  have hne1 : ((n.sums.length : Int) != (n.kids.length : Int)) = false := by rw [hs]; simp
  have hne2 : ((n.pivots.length : Int) != (n.kids.length : Int) - 1) = false := by rw [← hp]; simp
  have hkz : 0 < (n.kids.length : Int) := by omega
  -- the pieces
  have HLB := Lib.hid (cut_same ([] :: n.pivots) n.kids m hm0 (by rw [List.length_cons]; omega))
  have HLS := Lib.hid (cut_same n.sums n.kids m hm0 hs)
  have hcnt : (cutL n.kids (m : Int)).length ≤ 1000000 := Nat.le_trans (cutL_cnt n.kids m hm0) hl
  have HNE := Lib.hid (cutL_ne (([] : Bs) :: n.pivots) m hm0)
  have HN : Hid (innerN n m = (List.range (cutL n.kids (m : Int)).length).map fun i => ⟨[], ((cutL (([] : Bs) :: n.pivots) (m : Int)).getD i []).drop 1, (cutL n.kids (m : Int)).getD i [], (cutL n.sums (m : Int)).getD i [], []⟩) := Lib.hid rfl
  have HPV : Hid (innerP n m = ((cutL (([] : Bs) :: n.pivots) (m : Int)).drop 1).map headB) := Lib.hid rfl
  have HC1 := Lib.hid (fun wx (hx : Below w.heap.size w wx) => cutS_w (.slice p3 n.sums.length c3) n.sums m wx (HS.out.below hx).row (by omega) (by omega) (by omega))
  have HC2 := Lib.hid (fun v wx (hx : IsStrs wx v ([] :: n.pivots)) => cutT_w v ([] :: n.pivots) m wx hx.row (by rw [List.length_cons]; omega) (by omega) (by omega))
  have HC3 := Lib.hid (fun wx (hx : Below w.heap.size w wx) => cutI_w (.slice p2 n.kids.length c2) n.kids m wx (HR.out.below hx).row (by omega) (by omega) (by omega))
  have hsl : n.sums.length ≤ 1000000 := by omega
  have hpl : n.pivots.length + 1 ≤ 1000000 := by omega
  clear hs hp
  generalize innerN n m = N at *
  generalize innerP n m = P at *
  generalize cutL (([] : Bs) :: n.pivots) (m : Int) = BS at *
  generalize cutL n.kids (m : Int) = KS at *
  generalize cutL n.sums (m : Int) = SS at *
  obtain ⟨x0, x1, x2, x3, x4, -⟩ := five_ok HX.out
  obtain ⟨y0, y1, y2, -⟩ := three_at HY.out
  go_enter Try.func24, Try.ntmps24
  go_wp2_with fail
  rw [← HW0.out]
  go_wp2_with fail
  refine (HC1.out _ HG.out).mono ?_
  rintro e W1 ⟨v1, rfl, hpc1, hbl1⟩
  have HPC1 := Lib.hid hpc1
  have HB1 : Hid (Below W0.heap.size W0 W1) := Lib.hid hbl1
  have X1 := cell_all ((HX.out.below hbl1 HX.out.lt).c0 1 _ rfl)
  have Y1 := cell_all ((HY.out.below hbl1 HY.out.lt).c0 1 _ rfl)
  clear hpc1 hbl1 x0 x1 x2 x3 x4 y0 y1 y2
  go_upto_region 4 with fail
  go_cut [7, 8] (fun s7 s8 wx => s7 = v1 ∧ Hid (IsPcs w.heap.size encT 1 wx s8 BS) ∧ Hid (Below W1.heap.size W1 wx))
  case first =>
    have hQ1 : IsStrs W1 (.slice p1 n.pivots.length c1) n.pivots := HQ.out.below (HG.out.trans (HB1.out.mono HG.out.size))
    have HQ1 := Lib.hid hQ1
    go_region_held3 (fun wx => Below W1.heap.size W1 wx)
      (repeat (first | with_reducible assumption | with_reducible exact Below.refl _ _ | with_reducible refine bdrew ?_ | with_reducible refine keepP ?_ _))
      (first
        | (go_at_call 31; (refine (ahead_w W1 p1 c1 n.pivots HQ1.out (by omega)).mono ?_); rintro e w2 ⟨v2, rfl, hs2, hS2⟩; have HS2 := Lib.hid hs2)
        | (go_at_call 30; (refine (HC2.out v2 _ (by first | exact HS2.out | exact HS2.out.below (bdrew (Below.refl _ _)))).mono ?_); rintro e w3 ⟨v3, rfl, hpc3, hb3⟩; have hS3 : Below W1.heap.size W1 w3 := hS2.trans (hb3.mono hS2.size); have HPC3 := Lib.hid hpc3; have HZ3 := Lib.hid hS2.size; clear hpc3 hb3)
        | fail "no arm")
    all_goals
      go_wp2
      go_meet
      exact ⟨rfl, Lib.hid (HPC3.out.lower (Nat.le_trans (HG.out.trans (HB1.out.mono HG.out.size)).size HZ3.out)), Lib.hid hS3⟩
  case rest =>
    obtain ⟨rfl, HPB, HBc⟩ := hcut
    have HG1 : Hid (Below w.heap.size w W1) := Lib.hid (HG.out.trans (HB1.out.mono HG.out.size))
    have HGc : Hid (Below w.heap.size w wc) := Lib.hid (HG1.out.trans (HBc.out.mono HG1.out.size))
    have Xc := (HX.out.below (HB1.out.trans (HBc.out.mono HB1.out.size)) HX.out.lt)
    have Yc := (HY.out.below (HB1.out.trans (HBc.out.mono HB1.out.size)) HY.out.lt)
    obtain ⟨x0, x1, x2, x3, x4, -⟩ := five_ok Xc
    obtain ⟨y0, y1, y2, -⟩ := three_at Yc
    have HXc := Lib.hid Xc
    clear Xc Yc X1 Y1
    go_wp2_with fail
    refine (HC3.out _ HGc.out).mono ?_
    rintro e W2 ⟨v5, rfl, hpc5, hb5⟩
    have HX2 := Lib.hid (HXc.out.below hb5 HXc.out.lt)
    have HG2 : Hid (Below w.heap.size w W2) := Lib.hid (HGc.out.trans (hb5.mono HGc.out.size))
    obtain ⟨ka, kc, ks, rfl, hka, hkb, hkl, hkcell, hkrow⟩ := hpc5.list
    obtain ⟨sa, sc, ts, rfl, hsa, hsb, hsl2, hscell, hsrow⟩ := (HPC1.out.below (HBc.out.trans (hb5.mono HBc.out.size))).list
    obtain ⟨ba, bc, us, rfl, hba, hbb, hbl, hbcell, hbrow⟩ := (HPB.out.below hb5).list
    have HKC := Lib.hid hkcell
    have HKR := Lib.hid hkrow
    have HSC := Lib.hid hscell
    have HSR := Lib.hid hsrow
    have HBC := Lib.hid hbcell
    have HBR := Lib.hid hbrow
    have hlb := HLB.out
    have hls := HLS.out
    rw [hls] at hsa hsl2
    rw [hlb] at hba hbl
    have HLB2 := Lib.hid hlb
    have HLS2 := Lib.hid hls
    clear hkcell hkrow hscell hsrow hbcell hbrow hlb hls hpc5 hb5 x0 x1 x2 x3 x4 y0 y1 y2
    rw [HLS2.out, HLB2.out]
    go_wp2_with fail
    go_loopw [9, 10, 49] (fun lv pv i wr => ∃ (k : Nat) (X : List Nv), k ≤ KS.length ∧ i = .int .i64 k ∧ X.length = k ∧ Hid (∀ j (h : j < X.length) (h1 : j < us.length) (h2 : j < ks.length) (h3 : j < ts.length), X[j] = innerV (dropSl us[j]) ks[j] ts[j]) ∧ Hid (wr.ownsRow W2.heap.size 43 5 lv X.length (X.flatMap encN)) ∧ Hid (wr.ownsRow W2.heap.size 9 1 pv (((BS.take k).drop 1).map headB).length ((((BS.take k).drop 1).map headB).flatMap encT)) ∧ Hid (Below W2.heap.size W2 wr)) (fun _ _ i _ => KS.length - (intOf i).toNat)
    case atStart => exact ⟨0, [], Nat.zero_le _, rfl, rfl, Lib.hid (fun j h => absurd h (by simp)), Lib.hid (World.ownsRow_nil _ _ _ _), Lib.hid (World.ownsRow_nil _ _ _ _), Lib.hid (Below.refl _ _)⟩
    case round =>
      obtain ⟨k, X, hk, rfl, hxl, HXX, HL, HV, HB⟩ := hrel
      by_cases hlt : k < KS.length
      · have hltz : (k : Int) < (KS.length : Int) := by omega
        have hne : KS ≠ [] := by rintro rfl; simp at hlt
        have hneS : SS ≠ [] := by rintro rfl; have := HLS2.out; simp at this; omega
        have hneB : BS ≠ [] := by rintro rfl; have := HLB2.out; simp at this; omega
        obtain ⟨kb, ko, rfl, hkb1, hkc⟩ := HKC.out hne
        obtain ⟨sb, so, rfl, hsb1, hsc⟩ := HSC.out hneS
        obtain ⟨bb, bo, rfl, hbb1, hbc⟩ := HBC.out hneB
        have hks := hkc k hlt (by omega)
        have hss := hsc k (by rw [HLS2.out]; exact hlt) (by omega)
        have hbs := hbc k (by rw [HLB2.out]; exact hlt) (by omega)
        have hbr := HBR.out k (by rw [HLB2.out]; exact hlt) (by omega)
        have hpk : BS[k]'(by rw [HLB2.out]; exact hlt) ≠ [] := HNE.out _ (List.getElem_mem _)
        have HT2 : Hid (((BS.take (k + 1)).drop 1).map headB = ((BS.take k).drop 1).map headB ++ if 0 < k then [headB (BS[k]'(by rw [HLB2.out]; exact hlt))] else []) := Lib.hid (by
          rw [List.take_succ_eq_append_getElem (by rw [HLB2.out]; exact hlt)]
          by_cases h : 0 < k
          · rw [if_pos h, List.drop_append_of_le_length (by rw [List.length_take, HLB2.out]; omega), List.map_append]; rfl
          · obtain rfl : k = 0 := by omega
            rfl)
        have hl2 : (((BS.take k).drop 1).map headB).length ≤ 1000000 := by rw [List.length_map, List.length_drop, List.length_take]; omega
        have hxl1 : X.length ≤ 1000000 := by omega
        have HUE : Hid (us[k]'(by omega) = us[k]'(by omega)) := Lib.hid rfl
        have HKE : Hid (ks[k]'(by omega) = ks[k]'(by omega)) := Lib.hid rfl
        have HTE : Hid (ts[k]'(by omega) = ts[k]'(by omega)) := Lib.hid rfl
        generalize ((BS.take k).drop 1).map headB = Q at *
        clear hkc hsc hbc
        generalize hbp : BS[k]'(by rw [HLB2.out]; exact hlt) = p at *
        clear hbp
        obtain ⟨pu, hpu⟩ : ∃ pu, us[k]'(by omega) = pu := ⟨_, rfl⟩
        obtain ⟨pk, hpk2⟩ : ∃ pk, ks[k]'(by omega) = pk := ⟨_, rfl⟩
        obtain ⟨pt, hpt⟩ : ∃ pt, ts[k]'(by omega) = pt := ⟨_, rfl⟩
        rw [hpu] at hbs hbr
        rw [hpk2] at hks
        rw [hpt] at hss
        obtain ⟨q1, q2, q4⟩ := pu
        obtain ⟨k1, k2, k3⟩ := pk
        obtain ⟨t1, t2, t3⟩ := pt
        have HUE : Hid (us[k]'(by omega) = (q1, q2, q4)) := Lib.hid hpu
        have HKE : Hid (ks[k]'(by omega) = (k1, k2, k3)) := Lib.hid hpk2
        have HTE : Hid (ts[k]'(by omega) = (t1, t2, t3)) := Lib.hid hpt
        clear hpu hpk2 hpt
        obtain ⟨a6, c6, he6, h61, h62, h63⟩ := hbr
        injection he6 with e1 e2 e3
        subst e1 e2 e3
        obtain ⟨b6, o6, rfl, -, h6l, h6c⟩ := h63 hpk
        clear h63
        obtain ⟨px, pr, rfl⟩ : ∃ px pr, p = px :: pr := by
          cases p with
          | nil => exact absurd rfl hpk
          | cons x r => exact ⟨x, r, rfl⟩
        have k0 := h6c 0 (by simp) 0 _ rfl
        clear h6c hpk
        have hpl1 : 1 ≤ (px :: pr).length := by simp
        have hpl : 0 < (((px :: pr).length : Nat) : Int) := by simp
        have HK : Hid (headB (px :: pr) = px) := Lib.hid rfl
        simp only [List.getElem_cons_zero, Nat.zero_mul, Nat.add_zero] at k0
        generalize headB (px :: pr) = kk at *
        generalize (px :: pr).length = pl at *
        have hslw : ∀ w, (Instr.slice 35 (.slice (some ⟨b6, o6, none⟩) pl q4) (some (.int .i64 1)) none none).run Try.prog w = .ok (slV (dropSl (some ⟨b6, o6, none⟩, pl, q4))) w := fun w => sliceLT (some ⟨b6, o6, none⟩) pl q4 1 hpl1 w
        obtain ⟨dd, hdd⟩ : ∃ dd, dd = dropSl (some ⟨b6, o6, none⟩, pl, q4) := ⟨_, rfl⟩
        rw [← hdd] at hslw
        have HDE : Hid (dropSl (some ⟨b6, o6, none⟩, pl, q4) = dd) := Lib.hid hdd.symm
        clear hdd
        obtain ⟨d1, d2, d3⟩ := dd
        dsimp only [slV] at hks hss hbs hslw
        have hkr := (HB.out.cell (p := ⟨kb, ko + k, none⟩) hkb1).trans hks
        have hbr := (HB.out.cell (p := ⟨bb, bo + k, none⟩) hbb1).trans hbs
        have k0 := (HB.out.cell (p := ⟨b6, o6, none⟩) h6l).trans k0
        have hsA := cell_all hss
        have hbA := cell_all hbs
        clear hks hss hbs hne hneS hneB
        by_cases h0 : 0 < k
        · have h0z : 0 < (k : Int) := by omega
          rw [if_pos h0] at HT2
          go_wp2_with (first
            | (at_builtin; refine append_anyT (en := encT) rfl _ _ 35 9 _ 1 16 infoStr Try.underlying35 rfl (by decide) (by decide) lenT ocT rfl W2.heap.size u10 Q rfl (HV.out.alloc _) (.slice (some ⟨wr.heap.size, 0, none⟩) 1 1) [kk] rfl (by rw [HK.out]; exact lit_any lenT [px] rfl) (by simp only [List.length_cons, List.length_nil]; omega) (Nat.le_trans HB.out.size (by simp)) ?_; intro v3 w3 hown3 hturn3; have HV3 := Lib.hid hown3; have HL3 : Hid (w3.ownsRow W2.heap.size 43 5 u9 X.length (X.flatMap encN)) := Lib.hid (grown_own (HL.out.alloc _) hturn3.1 (own_own HV.out HL.out (by decide))); have HB3 : Hid (Below W2.heap.size W2 w3) := Lib.hid ((HB.out.alloc HB.out.size _).trans (turn_below (HV.out.alloc _) hturn3 (Nat.le_trans HB.out.size (by simp)))); clear hown3 hturn3))
          go_region_held3 (fun wx => Below W2.heap.size W2 wx)
            (repeat (first | with_reducible assumption | with_reducible exact HB3.out | with_reducible refine bdrew ?_ | with_reducible refine Below.alloc ?_ HB3.out.size _))
            (first
              | (refine step_anyT (en := encN) rfl _ _ 34 43 _ 5 120 infoN Try.underlying34 rfl (by decide) (by decide) lenN ocN rfl W2.heap.size u9 X rfl (own_drew (HL3.out.alloc _)) (.slice (some ⟨w3.heap.size, 0, none⟩) 1 1) [innerV (d1, d2, d3) (k1, k2, k3) (t1, t2, t3)] rfl (any_drew (lit_any lenN [innerV (d1, d2, d3) (k1, k2, k3) (t1, t2, t3)] rfl)) (by simp only [List.length_cons, List.length_nil]; omega) (Nat.le_trans HB3.out.size (by simp)) ?_; intro v4 w4 hown4 hturn4; have hS4 : Below W2.heap.size W2 w4 := (bdrew (HB3.out.alloc HB3.out.size _)).trans (turn_below (own_drew (HL3.out.alloc _)) hturn4 (Nat.le_trans HB3.out.size (by simp))); have HL4 := Lib.hid hown4; have HV4 := Lib.hid (grown_own (own_drew (HV3.out.alloc _)) hturn4.1 (own_own HL3.out HV3.out (by decide))); clear hown4 hturn4)
              | fail "no arm")
          have HS4 := Lib.hid hS4
          clear hS4
          go_wp2
          go_roundw
          case rel =>
            refine ⟨k + 1, X ++ [innerV (d1, d2, d3) (k1, k2, k3) (t1, t2, t3)], hlt, by go_num, by simp [hxl], Lib.hid (fun j hj h1 h2 h3 => ?_), HL4, by rw [HT2.out]; exact HV4, HS4⟩
            by_cases hjk : j < X.length
            · rw [List.getElem_append_left hjk]; exact HXX.out j hjk h1 h2 h3
            · have e : j = X.length := by simp at hj; omega
              subst e
              rw [List.getElem_append_right (Nat.le_refl _)]
              simp only [Nat.sub_self, List.getElem_cons_zero]
              have := HUE.out; have := HKE.out; have := HTE.out
              subst hxl
              rw [HUE.out, HKE.out, HTE.out, HDE.out]
          case measure => simp [intOf]; omega
        · rw [if_neg h0, List.append_nil] at HT2
          have h0z : (k : Int) ≤ 0 := by omega
          go_wp2_with fail
          go_region_held3 (fun wx => Below W2.heap.size W2 wx)
            (repeat (first | with_reducible assumption | with_reducible exact HB.out | with_reducible refine bdrew ?_ | with_reducible refine Below.alloc ?_ HB.out.size _))
            (first
              | (refine step_anyT (en := encN) rfl _ _ 34 43 _ 5 120 infoN Try.underlying34 rfl (by decide) (by decide) lenN ocN rfl W2.heap.size u9 X rfl (own_drew (HL.out.alloc _)) (.slice (some ⟨wr.heap.size, 0, none⟩) 1 1) [innerV (d1, d2, d3) (k1, k2, k3) (t1, t2, t3)] rfl (any_drew (lit_any lenN [innerV (d1, d2, d3) (k1, k2, k3) (t1, t2, t3)] rfl)) (by simp only [List.length_cons, List.length_nil]; omega) (Nat.le_trans HB.out.size (by simp)) ?_; intro v4 w4 hown4 hturn4; have hS4 : Below W2.heap.size W2 w4 := (bdrew (HB.out.alloc HB.out.size _)).trans (turn_below (own_drew (HL.out.alloc _)) hturn4 (Nat.le_trans HB.out.size (by simp))); have HL4 := Lib.hid hown4; have HV4 := Lib.hid (grown_own (own_drew (HV.out.alloc _)) hturn4.1 (own_own HL.out HV.out (by decide))); clear hown4 hturn4)
              | fail "no arm")
          have HS4 := Lib.hid hS4
          clear hS4
          go_wp2
          go_roundw
          case rel =>
            refine ⟨k + 1, X ++ [innerV (d1, d2, d3) (k1, k2, k3) (t1, t2, t3)], hlt, by go_num, by simp [hxl], Lib.hid (fun j hj h1 h2 h3 => ?_), HL4, by rw [HT2.out]; exact HV4, HS4⟩
            by_cases hjk : j < X.length
            · rw [List.getElem_append_left hjk]; exact HXX.out j hjk h1 h2 h3
            · have e : j = X.length := by simp at hj; omega
              subst e
              rw [List.getElem_append_right (Nat.le_refl _)]
              simp only [Nat.sub_self, List.getElem_cons_zero]
              have := HUE.out; have := HKE.out; have := HTE.out
              subst hxl
              rw [HUE.out, HKE.out, HTE.out, HDE.out]
          case measure => simp [intOf]; omega
      · obtain rfl : k = KS.length := by omega
        have e0 : BS.take KS.length = BS := List.take_of_length_le (by rw [HLB2.out]; exact Nat.le_refl _)
        rw [e0] at HV
        clear e0
        have hx4 := (HX2.out.below HB.out HX2.out.lt).c0 4 _ rfl
        have HGr : Hid (Below w.heap.size w wr) := Lib.hid (HG2.out.trans (HB.out.mono HG2.out.size))
        have HCM := Lib.hid (cloneM_w 0 (.slice p4 n.buf.length c4) n.buf wr (HT.out.below HGr.out).row hu)
        go_wp2_with fail
        refine HCM.out.mono ?_
        rintro e w6 ⟨v6, rfl, hown6, hb6⟩
        have HM6 := Lib.hid hown6
        have HB6 := Lib.hid hb6
        clear hown6 hb6 hx4
        go_wp2
        refine bodyPost_ret (v := .tuple #[u9, u10, v6]) (by simp [results, Try.results24, go_sem]) rfl ?_
        rw [HN.out, HPV.out]
        have hsz := HGr.out.size
        have hsz2 := HG2.out.size
        have hsz3 := HB.out.size
        refine ⟨_, _, _, rfl, ⟨X, by simp [hxl], ((IsRow.owned lenN HL.out).below HB6.out).lower hsz2, fun i hi hi2 => ?_⟩, ((IsRow.owned lenT HV.out).below HB6.out).lower hsz2, (IsRow.owned lenM HM6.out).lower hsz, HGr.out.trans (HB6.out.mono hsz)⟩
        have hi3 : i < KS.length := by simpa using hi2
        have hiB : i < BS.length := by rw [HLB2.out]; exact hi3
        have hiS : i < SS.length := by rw [HLS2.out]; exact hi3
        have hbw : Below W2.heap.size W2 w6 := HB.out.trans (HB6.out.mono hsz3)
        have r1 := (HBR.out i hiB (by omega)).below hbw
        have r2 := (HKR.out i hi3 (by omega)).below hbw
        have r3 := (HSR.out i hiS (by omega)).below hbw
        rw [HXX.out i hi (by omega) (by omega) (by omega), List.getElem_map, List.getElem_range]
        have e1 : BS.getD i [] = BS[i] := by rw [List.getD_eq_getElem?_getD, List.getElem?_eq_getElem hiB]; rfl
        have e2 : KS.getD i [] = KS[i] := by rw [List.getD_eq_getElem?_getD, List.getElem?_eq_getElem hi3]; rfl
        have e3 : SS.getD i [] = SS[i] := by rw [List.getD_eq_getElem?_getD, List.getElem?_eq_getElem hiS]; rfl
        rw [e1, e2, e3]
        have hq : 1 ≤ (BS[i]).length := by
          have := HNE.out _ (List.getElem_mem hiB)
          rcases hB : BS[i] with _ | ⟨x, r⟩
          · exact absurd hB this
          · simp
        have r4 : IsRow w.heap.size encT 1 w6 (slV (dropSl (us[i]'(by omega)))) ((BS[i]).drop 1) := by
          obtain ⟨a, c, e, -⟩ := id r1
          rw [e] at r1
          have := r1.sliced 1 (BS[i]).length hq (Nat.le_refl _)
          rw [List.take_length] at this
          rw [← dropSl_eq]
          generalize us[i]'(by omega) = su at *
          obtain ⟨s1, s2, s3⟩ := su
          injection e with f1 f2 f3
          subst f1 f2 f3
          exact this
        exact ⟨_, _, _, _, _, rfl, IsRow.nil _ _ _ _, r4, r2.lower HGc.out.size, r3.lower HG.out.size, IsRow.nil _ _ _ _, fun x hx => by cases hx⟩

end Go.Proofs.Ythpajecigkfajaa
