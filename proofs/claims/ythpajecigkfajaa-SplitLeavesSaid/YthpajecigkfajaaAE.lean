/-
  Walks: package split's Pieces and Leaf, the law's leaf, reference 13's Shape.
-/
import Derived.Test.YthpajecigkfajaaAD
namespace Go.Proofs.Ythpajecigkfajaa
open Go.RowKit Go.Sort
set_option linter.unusedVariables false
set_option maxRecDepth 100000

/-- The first key of a piece. -/
def keyP1 (p : List Pr) : Bs := match p with
  | [] => []
  | x :: _ => x.1
def leafX (p : List Pr) : Nd := ⟨p, [], [], [], []⟩
def leafN (ps : List Pr) (m : Int) : List Nd := if ps = [] then [noNd] else (cutL ps m).map leafX
def leafP (ps : List Pr) (m : Int) : List Bs := ((cutL ps m).drop 1).map keyP1
theorem cutL_ne {α : Type} (l : List α) (m : Nat) (hm : 1 ≤ m) : ∀ p ∈ cutL l (m : Int), p ≠ [] := by
  by_cases hl : l = []
  · subst hl; unfold cutL; rw [if_pos (.inr rfl)]; intro p hp; cases hp
  · obtain ⟨c, q, r, e, h1, h2, -, -, hq, -, -, hs⟩ := cutL_sizes l m hm hl
    rw [e]
    intro p hp hpe
    obtain ⟨i, hi, rfl⟩ := List.mem_iff_getElem.1 hp
    have := sizes_at hs i hi
    rw [hpe] at this
    simp at this; omega
theorem cutL_mem {α : Type} (l : List α) (m : Nat) (hm : 1 ≤ m) {p : List α} (hp : p ∈ cutL l (m : Int)) : ∀ x ∈ p, x ∈ l := fun x hx => by
  rw [← cutL_flat l m hm]; exact List.mem_flatten.2 ⟨p, hp, hx⟩
theorem le_sum_mem : ∀ {l : List Nat} {x : Nat}, x ∈ l → x ≤ l.sum
  | a :: l, x, h => by
    rw [List.sum_cons]
    rcases List.mem_cons.1 h with rfl | h
    · omega
    · have := le_sum_mem h; omega
theorem cutL_short {α : Type} (l : List α) (m : Nat) (hm : 1 ≤ m) {p : List α} (hp : p ∈ cutL l (m : Int)) : p.length ≤ l.length := by
  have h := congrArg List.length (cutL_flat l m hm)
  rw [List.length_flatten] at h
  rw [← h]
  exact le_sum_mem (List.mem_map.2 ⟨p, hp, rfl⟩)
theorem cutL_cnt {α : Type} (l : List α) (m : Nat) (hm : 1 ≤ m) : (cutL l (m : Int)).length ≤ l.length := by
  by_cases hl : l = []
  · subst hl; unfold cutL; rw [if_pos (.inr rfl)]; exact Nat.le_refl _
  · obtain ⟨c, q, r, e, h1, h2, -⟩ := cutL_sizes l m hm hl
    rw [e, cutS_len]; exact h2
theorem cutL_some {α : Type} (l : List α) (m : Nat) (hm : 1 ≤ m) (hl : l ≠ []) : 1 ≤ (cutL l (m : Int)).length := by
  obtain ⟨c, q, r, e, h1, h2, -⟩ := cutL_sizes l m hm hl
  rw [e, cutS_len]; exact h1

set_option maxHeartbeats 1000000 in
theorem pieces_w (v : Value) (l : List Pr) (m : Int) (w : World) (h : IsPairs w v l) (hl : l.length ≤ 1000000) (hm : m ≤ 1000000) (hm0 : -1000000 ≤ m) :
    Calls Try.prog 8 #[v, .int .i64 m] w fun e w' => ∃ v', e = .returned v' ∧ IsPcs w.heap.size encP 3 w' v' (cutL l m) ∧ Below w.heap.size w w' := by
  have HC := Lib.hid (cutP_w v l m w h.row hl hm hm0)
  go_enter Try.func8, Try.ntmps8
  go_wp2_with fail
  refine HC.out.mono ?_
  rintro e w2 ⟨v2, rfl, h2, hb⟩
  have H2 := Lib.hid h2
  have HB := Lib.hid hb
  clear h2 hb
  go_wp2
  go_ret
  exact ⟨v2, rfl, H2.out, HB.out⟩

def leafV (s : Sl3) : Nv := ⟨s, nil3, nil3, nil3, nil3⟩
set_option maxHeartbeats 4000000 in
theorem leafS_w (nv : Value) (n : Nd) (m : Nat) (fa bu : Int) (w : World) (h : IsNode w nv n) (hl : n.pairs.length ≤ 1000000) (hm : m ≤ 1000000) (hm0 : 1 ≤ m) :
    Calls Try.prog 20 #[nv, .agg #[.int .i64 (m : Int), .int .i64 fa, .int .i64 bu]] w fun e w' => ∃ v1 v2, e = .returned (.tuple #[v1, v2]) ∧ IsNodesB w.heap.size w' v1 (leafN n.pairs m) ∧ IsRow w.heap.size encT 1 w' v2 (leafP n.pairs m) ∧ Below w.heap.size w w' := by
  have mixed := mixedA
  obtain ⟨va, vb, vc, vd, ve, rfl, hP, -⟩ := h
  have HSM := Lib.hid hP.small
  have HP := Lib.hid hP
  obtain ⟨a, cap, rfl, hlc, hcm, -⟩ := hP
  unfold maxLen at hcm
  obtain ⟨W0, hW0⟩ : ∃ W0, W0 = (w.alloc (.cells #[.slice a n.pairs.length cap, vb, vc, vd, ve] 43)).alloc (.cells #[.int .i64 (m : Int), .int .i64 fa, .int .i64 bu] 32) := ⟨_, rfl⟩
  have HX : Hid (Blk W0 w.heap.size 43 #[.slice a n.pairs.length cap, vb, vc, vd, ve]) := Lib.hid (by rw [hW0]; exact (Blk.new _ _ _).alloc _)
  have HY : Hid (Blk W0 (w.heap.size + 1) 32 #[.int .i64 (m : Int), .int .i64 fa, .int .i64 bu]) := Lib.hid (by rw [hW0]; exact Blk.new' _ _ _ (by simp))
  have HG : Hid (Below w.heap.size w W0) := Lib.hid (by rw [hW0]; exact (((Grown.refl w).alloc _).alloc _).below (Nat.le_refl _))
  have HW0 := Lib.hid hW0
  clear hW0
  by_cases h0 : n.pairs = []
  · have HN : Hid (leafN n.pairs m = [noNd] ∧ leafP n.pairs m = []) := Lib.hid ⟨by unfold leafN; rw [if_pos h0], by unfold leafP cutL; rw [if_pos (.inr h0)]; rfl⟩
    have hz : n.pairs.length = 0 := by rw [h0]; rfl
    rw [hz] at HX HW0 hlc
    rw [hz]
    clear hz h0
    generalize leafN n.pairs m = N at *
    generalize leafP n.pairs m = P at *
    have x0 := HX.out.c0 0 _ rfl
    go_enter Try.func20, Try.ntmps20
    go_wp2_with fail
    rw [← HW0.out]
    go_wp2
    have hsz : w.heap.size + 1 + 1 = W0.heap.size := by rw [HW0.out]; simp
    refine bodyPost_ret (v := .tuple #[.slice (some ⟨W0.heap.size, 0, none⟩) 1 1, .slice none 0 0]) (by simp [results, Try.results20, go_sem, hsz]) rfl ?_
    rw [HN.out.1, HN.out.2]
    have hB : Blk (W0.alloc (.cells #[.slice none 0 0, .slice none 0 0, .slice none 0 0, .slice none 0 0, .slice none 0 0] 43)) W0.heap.size 43 #[.slice none 0 0, .slice none 0 0, .slice none 0 0, .slice none 0 0, .slice none 0 0] := Blk.new _ _ _
    refine ⟨_, _, rfl, ⟨[leafV nil3], rfl, ⟨some ⟨W0.heap.size, 0, none⟩, 1, rfl, Nat.le_refl _, by unfold maxLen; omega, fun _ => ⟨W0.heap.size, 0, rfl, HG.out.size, hB.lt, fun i hi j u hu => ?_⟩⟩, fun i hi hi2 => ?_⟩, IsRow.nil _ _ _ _, HG.out.trans ((below_box _).mono HG.out.size)⟩
    · obtain rfl : i = 0 := by simpa using hi
      rw [hB.cell]
      match j, hu with
      | 0, hu => exact hu
      | 1, hu => exact hu
      | 2, hu => exact hu
      | 3, hu => exact hu
      | 4, hu => exact hu
    · obtain rfl : i = 0 := by simpa using hi
      exact ⟨_, _, _, _, _, rfl, IsRow.nil _ _ _ _, IsRow.nil _ _ _ _, IsRow.nil _ _ _ _, IsRow.nil _ _ _ _, IsRow.nil _ _ _ _, fun x hx => by cases hx⟩
  · have hz : (((n.pairs.length : Nat) : Int) == 0) = false := by
      rw [beq_eq_false_iff_ne]
      intro e
      exact h0 (List.length_eq_zero_iff.1 (by omega))
    have HN : Hid (leafN n.pairs m = (cutL n.pairs m).map leafX) := Lib.hid (by unfold leafN; rw [if_neg h0])
    have HPV : Hid (leafP n.pairs m = ((cutL n.pairs m).drop 1).map keyP1) := Lib.hid rfl
    have HNE := Lib.hid (cutL_ne n.pairs m hm0)
    have HMS : Hid (∀ p ∈ cutL n.pairs (m : Int), ∀ x ∈ p, x.1.length ≤ maxLen ∧ x.2.1.length ≤ maxLen) := Lib.hid (fun p hp x hx => HSM.out x (cutL_mem n.pairs m hm0 hp x hx))
    have hcnt : (cutL n.pairs (m : Int)).length ≤ 1000000 := Nat.le_trans (cutL_cnt n.pairs m hm0) hl
    have HCUT := Lib.hid (cutP_w (.slice a n.pairs.length cap) n.pairs m W0 (HP.out.below HG.out).row hl (by omega) (by omega))
    generalize leafN n.pairs m = N at *
    generalize leafP n.pairs m = P at *
    generalize cutL n.pairs m = PS at *
    have x0 := HX.out.c0 0 _ rfl
    have y0 := HY.out.c0 0 _ rfl
    clear h0
    go_enter Try.func20, Try.ntmps20
    go_wp2_with fail
    rw [← HW0.out]
    go_wp2_with fail
    refine HCUT.out.mono ?_
    rintro e W1 ⟨v1, rfl, hpcs, hb1⟩
    obtain ⟨pa, pc, ss, rfl, hp1, hp2, hsl, hcell, hrow⟩ := hpcs.list
    have HCELL := Lib.hid hcell
    have HROW := Lib.hid hrow
    have HB1 : Hid (Below w.heap.size w W1) := Lib.hid (HG.out.trans (hb1.mono HG.out.size))
    clear hpcs hb1 hcell hrow
    go_wp2_with fail
    go_loopw [6, 7, 22] (fun lv pv i wr => ∃ (k : Nat), k ≤ PS.length ∧ i = .int .i64 k ∧ Hid (wr.ownsRow W1.heap.size 43 5 lv ((ss.take k).map leafV).length (((ss.take k).map leafV).flatMap encN)) ∧ Hid (wr.ownsRow W1.heap.size 9 1 pv (((PS.take k).drop 1).map keyP1).length ((((PS.take k).drop 1).map keyP1).flatMap encT)) ∧ Hid (Below W1.heap.size W1 wr)) (fun _ _ i _ => PS.length - (intOf i).toNat)
    case atStart => exact ⟨0, Nat.zero_le _, rfl, Lib.hid (World.ownsRow_nil _ _ _ _), Lib.hid (World.ownsRow_nil _ _ _ _), Lib.hid (Below.refl _ _)⟩
    case round =>
      obtain ⟨k, hk, rfl, HL, HV, HB⟩ := hrel
      by_cases hlt : k < PS.length
      · have hltz : (k : Int) < (PS.length : Int) := by omega
        have hne : PS ≠ [] := by rintro rfl; simp at hlt
        obtain ⟨bb, boff, rfl, hblt, hbc⟩ := HCELL.out hne
        have hbk := hbc k hlt (by omega)
        have hrk := HROW.out k hlt (by omega)
        have hpk : PS[k] ≠ [] := HNE.out _ (List.getElem_mem hlt)
        have HT : Hid ((ss.take (k + 1)).map leafV = (ss.take k).map leafV ++ [leafV (ss[k]'(by omega))]) := Lib.hid (by rw [List.take_succ_eq_append_getElem (by omega), List.map_append]; rfl)
        have HT2 : Hid (((PS.take (k + 1)).drop 1).map keyP1 = ((PS.take k).drop 1).map keyP1 ++ if 0 < k then [keyP1 PS[k]] else []) := Lib.hid (by
          rw [List.take_succ_eq_append_getElem hlt]
          by_cases h : 0 < k
          · rw [if_pos h, List.drop_append_of_le_length (by rw [List.length_take]; omega), List.map_append]; rfl
          · obtain rfl : k = 0 := by omega
            rfl)
        have hl1 : ((ss.take k).map leafV).length ≤ 1000000 := by rw [List.length_map, List.length_take]; omega
        have hl2 : (((PS.take k).drop 1).map keyP1).length ≤ 1000000 := by rw [List.length_map, List.length_drop, List.length_take]; omega
        generalize (ss.take k).map leafV = X at *
        generalize ((PS.take k).drop 1).map keyP1 = Q at *
        generalize hs3 : ss[k]'(by omega) = s3 at *
        generalize hpp : PS[k] = p at *
        obtain ⟨s1, s2, s4⟩ := s3
        obtain ⟨a6, c6, he6, h61, h62, h63⟩ := hrk
        injection he6 with e1 e2 e3
        subst e1 e2 e3
        obtain ⟨b6, o6, rfl, -, h6l, h6c⟩ := h63 hpk
        obtain ⟨px, pr, rfl⟩ : ∃ px pr, p = px :: pr := by
          cases p with
          | nil => exact absurd rfl hpk
          | cons x r => exact ⟨x, r, rfl⟩
        have k0 := h6c 0 (by simp) 0 _ rfl
        have hpl : 0 < (((px :: pr).length : Nat) : Int) := by simp
        have HK : Hid (keyP1 (px :: pr) = px.1) := Lib.hid rfl
        obtain ⟨pk, pv2, pt⟩ := px
        simp only [List.getElem_cons_zero, Nat.zero_mul, Nat.add_zero] at k0
        clear h63 h6c hs3 hpp
        generalize keyP1 ((pk, pv2, pt) :: pr) = kk at *
        clear hpk
        generalize ((pk, pv2, pt) :: pr).length = pl at *
        have hbk := (HB.out.cell (p := ⟨bb, boff + k, none⟩) hblt).trans hbk
        have k0 := (HB.out.cell (p := ⟨b6, o6, none⟩) h6l).trans k0
        clear hbc hne
        dsimp only [slV] at hbk
        by_cases h0 : 0 < k
        · have h0z : 0 < (k : Int) := by omega
          rw [if_pos h0] at HT2
          go_wp2_with (first
            | (at_builtin; refine append_anyT (en := encT) rfl _ _ 35 9 _ 1 16 infoStr Try.underlying35 rfl (by decide) (by decide) lenT ocT rfl W1.heap.size _ Q rfl (HV.out.alloc _) (.slice (some ⟨wr.heap.size, 0, none⟩) 1 1) [kk] rfl (by rw [HK.out]; exact lit_any lenT [pk] rfl) (by simp only [List.length_cons, List.length_nil]; omega) (Nat.le_trans HB.out.size (by simp)) ?_; intro v3 w3 hown3 hturn3; have HV3 := Lib.hid hown3; have HL3 : Hid (w3.ownsRow W1.heap.size 43 5 u6 X.length (X.flatMap encN)) := Lib.hid (grown_own (HL.out.alloc _) hturn3.1 (own_own HV.out HL.out (by decide))); have HB3 : Hid (Below W1.heap.size W1 w3) := Lib.hid ((HB.out.alloc HB.out.size _).trans (turn_below (HV.out.alloc _) hturn3 (Nat.le_trans HB.out.size (by simp)))); clear hown3 hturn3)
            | (at_builtin; refine append_anyT (en := encN) rfl _ _ 34 43 _ 5 120 infoN Try.underlying34 rfl (by decide) (by decide) lenN ocN rfl W1.heap.size _ X rfl (HL3.out.alloc _) (.slice (some ⟨w3.heap.size, 0, none⟩) 1 1) [leafV (some ⟨b6, o6, none⟩, pl, s4)] rfl (lit_any lenN [leafV (some ⟨b6, o6, none⟩, pl, s4)] rfl) (by simp only [List.length_cons, List.length_nil]; omega) (Nat.le_trans HB3.out.size (by simp)) ?_; intro v4 w4 hown4 hturn4; have HL4 := Lib.hid hown4; have HV4 := Lib.hid (grown_own (HV3.out.alloc _) hturn4.1 (own_own HL3.out HV3.out (by decide))); have HB4 : Hid (Below W1.heap.size W1 w4) := Lib.hid ((HB3.out.alloc HB3.out.size _).trans (turn_below (HL3.out.alloc _) hturn4 (Nat.le_trans HB3.out.size (by simp)))); clear hown4 hturn4))
          go_roundw
          case rel => exact ⟨k + 1, hlt, by go_num, by rw [HT.out]; exact HL4, by rw [HT2.out]; exact HV4, HB4⟩
          case measure => simp [intOf]; omega
        · rw [if_neg h0, List.append_nil] at HT2
          have h0z : (k : Int) ≤ 0 := by omega
          go_wp2_with (first
            | (at_builtin; refine append_anyT (en := encN) rfl _ _ 34 43 _ 5 120 infoN Try.underlying34 rfl (by decide) (by decide) lenN ocN rfl W1.heap.size _ X rfl (HL.out.alloc _) (.slice (some ⟨wr.heap.size, 0, none⟩) 1 1) [leafV (some ⟨b6, o6, none⟩, pl, s4)] rfl (lit_any lenN [leafV (some ⟨b6, o6, none⟩, pl, s4)] rfl) (by simp only [List.length_cons, List.length_nil]; omega) (Nat.le_trans HB.out.size (by simp)) ?_; intro v4 w4 hown4 hturn4; have HL4 := Lib.hid hown4; have HV4 := Lib.hid (grown_own (HV.out.alloc _) hturn4.1 (own_own HL.out HV.out (by decide))); have HB4 : Hid (Below W1.heap.size W1 w4) := Lib.hid ((HB.out.alloc HB.out.size _).trans (turn_below (HL.out.alloc _) hturn4 (Nat.le_trans HB.out.size (by simp)))); clear hown4 hturn4))
          go_roundw
          case rel => exact ⟨k + 1, hlt, by go_num, by rw [HT.out]; exact HL4, by rw [HT2.out]; exact HV4, HB4⟩
          case measure => simp [intOf]; omega
      · obtain rfl : k = PS.length := by omega
        have e1 : ss.take PS.length = ss := List.take_of_length_le (by omega)
        rw [e1] at HL
        rw [List.take_length] at HV
        clear e1
        go_wp2
        refine bodyPost_ret (v := .tuple #[u6, u7]) (by simp [results, Try.results20, go_sem]) rfl ?_
        rw [HN.out, HPV.out]
        refine ⟨_, _, rfl, ⟨ss.map leafV, by simp [hsl], (IsRow.owned lenN HL.out).lower HB1.out.size, fun i hi hi2 => ?_⟩, (IsRow.owned lenT HV.out).lower HB1.out.size, HB1.out.trans (HB.out.mono HB1.out.size)⟩
        have hi3 : i < PS.length := by simpa using hi2
        have hr := (HROW.out i hi3 (by omega)).below HB.out
        rw [List.getElem_map, List.getElem_map]
        exact ⟨_, _, _, _, _, rfl, hr.lower HG.out.size, IsRow.nil _ _ _ _, IsRow.nil _ _ _ _, IsRow.nil _ _ _ _, IsRow.nil _ _ _ _, HMS.out _ (List.getElem_mem hi3)⟩

end Go.Proofs.Ythpajecigkfajaa
