/-
  Walks: the fixed examples.
-/
import Derived.Test.YthpajecigkfajaaAN
namespace Go.Proofs.Ythpajecigkfajaa
open Go.RowKit Go.Sort
set_option linter.unusedVariables false
set_option maxRecDepth 100000

theorem blk_drew {w : World} {b : Nat} {T : TypeId} {cs : Array Value} (h : Blk w b T cs) : Blk w.drew b T cs := h
theorem cut_close {w9 wx : World} {tb tf tc cb nbk sbk : Nat} (hB : Blk wx cb 38 #[.slice (some ⟨nbk, 0, none⟩) 2 2, .slice (some ⟨sbk, 0, none⟩) 1 1, .slice none 0 0])
    (hN : Blk wx nbk 43 #[.slice (some ⟨tb, tf, none⟩) 2 tc, .slice none 0 0, .slice none 0 0, .slice none 0 0, .slice none 0 0, .slice (some ⟨tb, tf + 6, none⟩) 1 (tc - 2), .slice none 0 0, .slice none 0 0, .slice none 0 0, .slice none 0 0])
    (hS : Blk wx sbk 9 #[.string ⟨#[99]⟩]) (hbel : Below w9.heap.size w9 wx) (hP : IsPairs w9 (.slice (some ⟨tb, tf, none⟩) 7 tc) tab7) :
    ∃ cb' z0 z1 z2, Value.pointer (some ⟨cb, 0, none⟩) = .pointer (some ⟨cb', 0, none⟩) ∧ Hid (Blk wx cb' 38 #[slV z0, slV z1, slV z2]) ∧ Hid (IsSplit wx (.agg #[slV z0, slV z1, slV z2]) cut3 [[99]] []) ∧ Hid (Below w9.heap.size w9 wx) := by
  have hP2 := hP.below hbel
  refine ⟨cb, (some ⟨nbk, 0, none⟩, 2, 2), (some ⟨sbk, 0, none⟩, 1, 1), nil3, rfl, Lib.hid hB, Lib.hid ⟨_, _, _, rfl, ⟨[leafV (some ⟨tb, tf, none⟩, 2, tc), leafV (some ⟨tb, tf + 6, none⟩, 1, tc - 2)], rfl, ⟨_, 2, rfl, by simp, by unfold maxLen; omega, fun _ => ⟨nbk, 0, rfl, Nat.zero_le _, hN.lt, fun i hi j u hu => ?_⟩⟩, fun i h h2 => ?_⟩, ⟨_, 1, rfl, by simp, by unfold maxLen; omega, fun _ => ⟨sbk, 0, rfl, hS.lt, fun i hi => ?_⟩⟩, nil_msgs _⟩, Lib.hid hbel⟩
  · rw [hN.cell]
    match i, hi, j, hu with
    | 0, _, 0, hu => exact hu
    | 0, _, 1, hu => exact hu
    | 0, _, 2, hu => exact hu
    | 0, _, 3, hu => exact hu
    | 0, _, 4, hu => exact hu
    | 1, _, 0, hu => exact hu
    | 1, _, 1, hu => exact hu
    | 1, _, 2, hu => exact hu
    | 1, _, 3, hu => exact hu
    | 1, _, 4, hu => exact hu
  · match i, h, h2 with
    | 0, _, _ => exact ⟨_, _, _, _, _, rfl, pairs_take13 hP2 2 (by decide) (by decide), nil_strs _, nil_ints _, nil_sums _, nil_msgs _⟩
    | 1, _, _ => exact ⟨_, _, _, _, _, rfl, pairs_cut hP2 2 3 (by decide) (by decide), nil_strs _, nil_ints _, nil_sums _, nil_msgs _⟩
  · obtain rfl : i = 0 := by simpa using hi
    rw [hS.cell]; rfl
set_option maxHeartbeats 8000000 in
theorem sanity13_w (w : World) : Calls Try.prog 6 #[] w fun e w' => e = .returned (.bool true) ∧ Below w.heap.size w w' := by
  have mixed := mixedA
  go_enter Try.func6, Try.ntmps6
  go_wp2
  go_loopw [1, 2] (fun t i wr => ∃ k : Nat, k ≤ 7 ∧ i = .int .i64 k ∧ Hid (wr.ownsRow w.heap.size 45 3 t (((List.range k).map tabP)).length (((List.range k).map tabP).flatMap encP)) ∧ Hid (Below w.heap.size w wr)) (fun _ i _ => 7 - (intOf i).toNat)
  case atStart => exact ⟨0, Nat.zero_le _, rfl, Lib.hid (emptyP w _ (Nat.le_refl _)), Lib.hid (below_box _)⟩
  case round =>
    obtain ⟨k, hk, rfl, HO, HB⟩ := hrel
    by_cases hlt : k < 7
    · have hltz : (k : Int) < 7 := by omega
      have HT : Hid ((List.range (k + 1)).map tabP = (List.range k).map tabP ++ [tabP k]) := Lib.hid (by rw [List.range_succ, List.map_append]; rfl)
      have hll : ((List.range k).map tabP).length ≤ 10 := by simp; omega
      generalize (List.range k).map tabP = X at *
      have hkk : k = 0 ∨ k = 1 ∨ k = 2 ∨ k = 3 ∨ k = 4 ∨ k = 5 ∨ k = 6 := by omega
      rcases hkk with rfl | rfl | rfl | rfl | rfl | rfl | rfl
      · go_wp2_with (at_builtin; refine append_any (en := encP) rfl _ _ 24 45 _ 3 40 infoP Try.underlying24 rfl (by decide) (by decide) lenP ocP rfl w.heap.size _ X rfl ((HO.out.alloc _).alloc _) (.slice (some ⟨wr.heap.size + 1, 0, none⟩) 1 1) [tabP 0] rfl (lit_any lenP [tabP 0] (by simp)) (by simp only [List.length_cons, List.length_nil]; omega) (Nat.le_trans HB.out.size (by simp; omega)) ?_; intro v4 w4 hown4 hb4; have HO4 := Lib.hid hown4; have HB4 : Hid (Below w.heap.size w w4) := Lib.hid (((HB.out.alloc HB.out.size _).alloc (Nat.le_trans HB.out.size (by simp)) _).trans hb4); clear hown4 hb4)
        go_roundw
        case rel => exact ⟨1, by decide, by go_num, by rw [HT.out]; exact HO4, HB4⟩
        case measure => simp [intOf]
      · go_wp2_with (at_builtin; refine append_any (en := encP) rfl _ _ 24 45 _ 3 40 infoP Try.underlying24 rfl (by decide) (by decide) lenP ocP rfl w.heap.size _ X rfl ((HO.out.alloc _).alloc _) (.slice (some ⟨wr.heap.size + 1, 0, none⟩) 1 1) [tabP 1] rfl (lit_any lenP [tabP 1] (by simp)) (by simp only [List.length_cons, List.length_nil]; omega) (Nat.le_trans HB.out.size (by simp; omega)) ?_; intro v4 w4 hown4 hb4; have HO4 := Lib.hid hown4; have HB4 : Hid (Below w.heap.size w w4) := Lib.hid (((HB.out.alloc HB.out.size _).alloc (Nat.le_trans HB.out.size (by simp)) _).trans hb4); clear hown4 hb4)
        go_roundw
        case rel => exact ⟨2, by decide, by go_num, by rw [HT.out]; exact HO4, HB4⟩
        case measure => simp [intOf]
      · go_wp2_with (at_builtin; refine append_any (en := encP) rfl _ _ 24 45 _ 3 40 infoP Try.underlying24 rfl (by decide) (by decide) lenP ocP rfl w.heap.size _ X rfl ((HO.out.alloc _).alloc _) (.slice (some ⟨wr.heap.size + 1, 0, none⟩) 1 1) [tabP 2] rfl (lit_any lenP [tabP 2] (by simp)) (by simp only [List.length_cons, List.length_nil]; omega) (Nat.le_trans HB.out.size (by simp; omega)) ?_; intro v4 w4 hown4 hb4; have HO4 := Lib.hid hown4; have HB4 : Hid (Below w.heap.size w w4) := Lib.hid (((HB.out.alloc HB.out.size _).alloc (Nat.le_trans HB.out.size (by simp)) _).trans hb4); clear hown4 hb4)
        go_roundw
        case rel => exact ⟨3, by decide, by go_num, by rw [HT.out]; exact HO4, HB4⟩
        case measure => simp [intOf]
      · go_wp2_with (at_builtin; refine append_any (en := encP) rfl _ _ 24 45 _ 3 40 infoP Try.underlying24 rfl (by decide) (by decide) lenP ocP rfl w.heap.size _ X rfl ((HO.out.alloc _).alloc _) (.slice (some ⟨wr.heap.size + 1, 0, none⟩) 1 1) [tabP 3] rfl (lit_any lenP [tabP 3] (by simp)) (by simp only [List.length_cons, List.length_nil]; omega) (Nat.le_trans HB.out.size (by simp; omega)) ?_; intro v4 w4 hown4 hb4; have HO4 := Lib.hid hown4; have HB4 : Hid (Below w.heap.size w w4) := Lib.hid (((HB.out.alloc HB.out.size _).alloc (Nat.le_trans HB.out.size (by simp)) _).trans hb4); clear hown4 hb4)
        go_roundw
        case rel => exact ⟨4, by decide, by go_num, by rw [HT.out]; exact HO4, HB4⟩
        case measure => simp [intOf]
      · go_wp2_with (at_builtin; refine append_any (en := encP) rfl _ _ 24 45 _ 3 40 infoP Try.underlying24 rfl (by decide) (by decide) lenP ocP rfl w.heap.size _ X rfl ((HO.out.alloc _).alloc _) (.slice (some ⟨wr.heap.size + 1, 0, none⟩) 1 1) [tabP 4] rfl (lit_any lenP [tabP 4] (by simp)) (by simp only [List.length_cons, List.length_nil]; omega) (Nat.le_trans HB.out.size (by simp; omega)) ?_; intro v4 w4 hown4 hb4; have HO4 := Lib.hid hown4; have HB4 : Hid (Below w.heap.size w w4) := Lib.hid (((HB.out.alloc HB.out.size _).alloc (Nat.le_trans HB.out.size (by simp)) _).trans hb4); clear hown4 hb4)
        go_roundw
        case rel => exact ⟨5, by decide, by go_num, by rw [HT.out]; exact HO4, HB4⟩
        case measure => simp [intOf]
      · go_wp2_with (at_builtin; refine append_any (en := encP) rfl _ _ 24 45 _ 3 40 infoP Try.underlying24 rfl (by decide) (by decide) lenP ocP rfl w.heap.size _ X rfl ((HO.out.alloc _).alloc _) (.slice (some ⟨wr.heap.size + 1, 0, none⟩) 1 1) [tabP 5] rfl (lit_any lenP [tabP 5] (by simp)) (by simp only [List.length_cons, List.length_nil]; omega) (Nat.le_trans HB.out.size (by simp; omega)) ?_; intro v4 w4 hown4 hb4; have HO4 := Lib.hid hown4; have HB4 : Hid (Below w.heap.size w w4) := Lib.hid (((HB.out.alloc HB.out.size _).alloc (Nat.le_trans HB.out.size (by simp)) _).trans hb4); clear hown4 hb4)
        go_roundw
        case rel => exact ⟨6, by decide, by go_num, by rw [HT.out]; exact HO4, HB4⟩
        case measure => simp [intOf]
      · go_wp2_with (at_builtin; refine append_any (en := encP) rfl _ _ 24 45 _ 3 40 infoP Try.underlying24 rfl (by decide) (by decide) lenP ocP rfl w.heap.size _ X rfl ((HO.out.alloc _).alloc _) (.slice (some ⟨wr.heap.size + 1, 0, none⟩) 1 1) [tabP 6] rfl (lit_any lenP [tabP 6] (by simp)) (by simp only [List.length_cons, List.length_nil]; omega) (Nat.le_trans HB.out.size (by simp; omega)) ?_; intro v4 w4 hown4 hb4; have HO4 := Lib.hid hown4; have HB4 : Hid (Below w.heap.size w w4) := Lib.hid (((HB.out.alloc HB.out.size _).alloc (Nat.le_trans HB.out.size (by simp)) _).trans hb4); clear hown4 hb4)
        go_roundw
        case rel => exact ⟨7, by decide, by go_num, by rw [HT.out]; exact HO4, HB4⟩
        case measure => simp [intOf]
    · obtain rfl : k = 7 := by omega
      have hown := HO.out
      rw [show (List.range 7).map tabP = tab7 from rfl] at hown
      have HP0 : Hid (IsPairs wr u1 tab7) := Lib.hid (IsPairs.owned hown tab7_short)
      clear hown HO
      obtain ⟨ta, tc, rfl, ht1, ht2, -, ht5⟩ := HP0.out
      obtain ⟨tb, tf, rfl, htb, -⟩ := ht5 (by decide)
      have ht3 : 7 ≤ tc := ht1
      unfold maxLen at ht2
      rw [show tab7.length = 7 from rfl] at HP0
      rw [show tab7.length = 7 from rfl]
      clear ht1 ht5
      have ht4 : (6 : Int) ≤ (tc : Int) := by omega
      have ht7 : (3 : Int) ≤ (tc : Int) := by omega
      have ht8 : (2 : Int) ≤ (tc : Int) := by omega
      have HT6 : Hid (IsPairs wr (.slice (some ⟨tb, tf, none⟩) 6 tc) (tab7.take 6)) := Lib.hid (pairs_take13 HP0.out 6 (by decide) (by decide))
      have HPA := Lib.hid (fun wx (hx : Below wr.heap.size wr wx) => pieces_w (.slice (some ⟨tb, tf, none⟩) 7 tc) tab7 3 wx (HP0.out.below hx) (by decide) (by decide) (by decide))
      have HPB := Lib.hid (fun wx (hx : Below wr.heap.size wr wx) => pieces_w (.slice (some ⟨tb, tf, none⟩) 6 tc) (tab7.take 6) 3 wx (HT6.out.below hx) (by decide) (by decide) (by decide))
      go_upto_region 6 with fail
      go_cut [3, 4] (fun s3 s4 wx => Hid (IsPcs 0 encP 3 wx s3 (cutL tab7 3)) ∧ Hid (IsPcs 0 encP 3 wx s4 (cutL (tab7.take 6) 3)) ∧ Hid (Below wr.heap.size wr wx))
      case first =>
        go_region_held3 (fun wx => Below wr.heap.size wr wx)
          (repeat (first | with_reducible assumption | with_reducible exact Below.refl _ _ | with_reducible refine bdrew ?_))
          (first
            | (go_at_call_of 8 (Value.slice (some ⟨tb, tf, none⟩) 7 tc); (refine (HPA.out _ (by first | exact Below.refl _ _ | exact bdrew (Below.refl _ _))).mono ?_); rintro e w2 ⟨v2, rfl, hp2, hb2⟩; have hS2 : Below wr.heap.size wr w2 := (bdrew (Below.refl wr.heap.size wr)).trans hb2; have HP2 := Lib.hid hp2; clear hp2 hb2)
            | (go_at_call_of 8 (Value.slice (some ⟨tb, tf, none⟩) 6 tc); (refine (HPB.out _ (by first | exact hS2 | exact bdrew hS2)).mono ?_); rintro e w3 ⟨v3, rfl, hp3, hb3⟩; have hS3 : Below wr.heap.size wr w3 := hS2.trans (hb3.mono hS2.size); have HP3 := Lib.hid hp3; have HB3 := Lib.hid (hb3.mono (Nat.le_refl _)))
            | fail "no arm")
        all_goals
          go_wp2
          go_meet
          exact ⟨Lib.hid ((HP2.out.below (by first | exact HB3.out | exact (Below.refl _ _).trans HB3.out)).lower (Nat.zero_le _)), Lib.hid (HP3.out.lower (Nat.zero_le _)), Lib.hid hS3⟩
      case rest =>
        obtain ⟨HA, HB2, HBc⟩ := hcut
        obtain ⟨w6, hw6⟩ : ∃ w6, w6 = wc := ⟨_, rfl⟩
        subst hw6
        have HBW : Hid (Below w.heap.size w w6) := Lib.hid (HB.out.trans (HBc.out.mono HB.out.size))
        have HP1 : Hid (IsPairs w6 (.slice (some ⟨tb, tf, none⟩) 7 tc) tab7) := Lib.hid (HP0.out.below HBc.out)
        clear HPA HPB HP0 HT6 HBc HB
        obtain ⟨i0, hi, hz0, hz1, hz2⟩ := info_parts infoSm
        go_upto_region 7 with fail
        go_cut [5] (fun s5 wx => ∃ nb x0 x1 x2 x3 x4, s5 = .pointer (some ⟨nb, 0, none⟩) ∧ Hid (Blk wx nb 43 #[slV x0, slV x1, slV x2, slV x3, slV x4]) ∧ Hid (IsNode wx (.agg #[slV x0, slV x1, slV x2, slV x3, slV x4]) nod5) ∧ Hid (Below w6.heap.size w6 wx))
        case first =>
          go_wp2_with (at_make; refine wpList_make_full _ rfl _ _ 41 rfl w6.heap.size 72 i0 (.agg #[.int .i64 0, .int .i64 0, .int .i64 0, .int .i64 0]) 4 Try.underlying41 hi hz0 hz1 .i64 .i64 _ _ 5 rfl rfl rfl rfl (by rw [hz2]; omega) (by unfold maxLen; omega) (by first | (simp; done) | (simp; omega)) ?_; intro v5 hown5 hgrow5)
          go_meet
          have hg5 := Below.grown (Below.refl _ _) hgrow5 (Nat.le_refl _) (fun k hk => by cases hk)
          have hbw5 : Below w6.heap.size w6 v5 := (keepP (keepP (Below.refl _ _) _) _).trans (hg5.mono (by first | (simp; done) | (simp; omega)))
          have hi1 : IsInts (w6.alloc (.cells #[.int .i64 1, .int .i64 2, .int .i64 3, .int .i64 4, .int .i64 5] 3)) (.slice (some ⟨w6.heap.size, 0, none⟩) 5 5) [1, 2, 3, 4, 5] := (lit_row lenI [1, 2, 3, 4, 5] rfl (by decide)).ints
          have hs1 : IsStrs ((w6.alloc (.cells #[.int .i64 1, .int .i64 2, .int .i64 3, .int .i64 4, .int .i64 5] 3)).alloc (.cells #[.string ⟨#[98]⟩, .string ⟨#[99]⟩, .string ⟨#[100]⟩, .string ⟨#[101]⟩] 9)) (.slice (some ⟨w6.heap.size + 1, 0, none⟩) 4 4) [[98], [99], [100], [101]] := (lit_row lenT [[98], [99], [100], [101]] (by simp) (by decide)).strs
          have hm1 : IsMsgs (v5.alloc (.cells #[.int .i64 2, .string ⟨#[107]⟩, .string ⟨#[]⟩, .string ⟨#[]⟩, .string ⟨#[]⟩, .string ⟨#[]⟩, .string ⟨#[]⟩, .int .i64 0] 59)) (.slice (some ⟨v5.heap.size, 0, none⟩) 1 1) [delK] := (lit_row lenM [delK] rfl (by decide)).msgs
          have hz1 := made5_sums (.inl rfl) hown5
          refine ⟨v5.heap.size + 1, nil3, (some ⟨w6.heap.size + 1, 0, none⟩, 4, 4), (some ⟨w6.heap.size, 0, none⟩, 5, 5), (some ⟨w6.heap.size + 1 + 1, 0, none⟩, 5, 5), (some ⟨v5.heap.size, 0, none⟩, 1, 1), rfl, Lib.hid (Blk.new' _ _ _ (by simp)), Lib.hid ⟨_, _, _, _, _, rfl, nil_pairs _, ?_, ?_, ?_, ?_⟩, Lib.hid (keepP (keepP hbw5 _) _)⟩
          · exact hs1.below (((hg5.alloc hg5.size _)).alloc (Nat.le_trans hg5.size (by simp)) _)
          · exact hi1.below ((keepP (Below.refl _ _) _).trans ((((hg5.alloc hg5.size _)).alloc (Nat.le_trans hg5.size (by simp)) _).mono (by simp)))
          · simp only [World.size_alloc] at hz1
            exact hz1.below (keepP (keepP (Below.refl _ _) _) _)
          · exact hm1.below (keepP (Below.refl _ _) _)
        case rest =>
          obtain ⟨nb, n0, n1, n2, n3, n4, rfl, HNB, HNI, HB7⟩ := hcut
          obtain ⟨w7, hw7⟩ : ∃ w7, w7 = wc := ⟨_, rfl⟩
          subst hw7
          have hn4 := HNB.out.c0 4 _ rfl
          go_upto_region 9 with (at_make; refine wpList_make_full _ rfl _ _ 41 rfl w7.heap.size 72 i0 (.agg #[.int .i64 0, .int .i64 0, .int .i64 0, .int .i64 0]) 4 Try.underlying41 hi hz0 hz1 .i64 .i64 _ _ 2 rfl rfl rfl rfl (by rw [hz2]; omega) (by unfold maxLen; omega) (Nat.le_refl _) ?_; intro w8 hown8 hgrow8)
          have HZ8 : Hid (IsSums w8 (.slice (some ⟨w7.heap.size, 0, none⟩) 2 2) (List.replicate 2 zeroSm)) := Lib.hid (made5_sums (.inr rfl) hown8)
          have HB8 : Hid (Below w7.heap.size w7 w8) := Lib.hid (Below.grown (Below.refl _ _) hgrow8 (Nat.le_refl _) (fun k hk => by cases hk))
          have hnA := cell_all ((HNB.out.below HB8.out HNB.out.lt).c0 4 _ rfl)
          clear hown8 hgrow8 hn4
          have h12 : (1 : Int) ≤ 2 := by decide
          go_cut [7] (fun s7 wx => ∃ qb y0 y1 y2, s7 = .pointer (some ⟨qb, 0, none⟩) ∧ Hid (Blk wx qb 38 #[slV y0, slV y1, slV y2]) ∧ Hid (IsSplit wx (.agg #[slV y0, slV y1, slV y2]) want5 [[99], [101]] [delK]) ∧ Hid (Below w8.heap.size w8 wx))
          case first =>
            have hm8 : IsMsgs w8 (slV n4) [delK] := by
              obtain ⟨a, b, c, d, e, he, -, -, -, -, k5⟩ := HNI.out
              injection he with he
              have e4 : slV n4 = e := by injection (congrArg (fun x : Array Value => x[4]?) he : some _ = some _)
              rw [e4]; exact k5.below HB8.out
            refine regS9 w7.heap.size nb n4 w8 hnA HZ8.out hm8 _ _ _ _ _ _ _ _ _ _ _ _ _ _ _ _ _ _ _ _ _ _ _ _ _ _ _ _ _ _ _ _ _ _ _ _ _ _ _ _ _ _ _ _ _ _ _ _ _ _ _ _ _ _ _ _ _ _ _ _ _ _ _ _ _ _ _ _ _ _ _ _ _ _ _ _ _ _ _ _ _ _ _ _ _ _ _ _ _ _ _ _ _ _ _ _ _ _ _ _ _ _ _ _ _ _ _ _ _ _ _ _ _ _ _ _ _ _ _ _ _ _ _ _ _ _ _ _ _ _ _ _ _ _ _ _ _ _ _ _ _ ?_
            intro u37 u38 u39 u40 u41 u42 u43 u44 u45 u46 u47 u48 u49 u50 u51 u52 u53 qb y0 y1 y2 wx hb hs hbel
            go_wp2
            go_meet
            exact ⟨qb, y0, y1, y2, rfl, Lib.hid hb, Lib.hid hs, Lib.hid hbel⟩
          case rest =>
            obtain ⟨qb, y0, y1, y2, rfl, HQB, HQS, HB9⟩ := hcut
            obtain ⟨w9, hw9⟩ : ∃ w9, w9 = wc := ⟨_, rfl⟩
            subst hw9
            have ht23 : (2 : Int) ≤ 3 := by decide
            have htc2 : ¬ tc = 2 := by omega
            have hP9 : Hid (IsPairs w9 (.slice (some ⟨tb, tf, none⟩) 7 tc) tab7) := Lib.hid (HP1.out.below (HB7.out.trans ((HB8.out.trans (HB9.out.mono HB8.out.size)).mono HB7.out.size)))
            go_upto_region 10 with fail
            go_cut [8] (fun s8 wx => ∃ cb z0 z1 z2, s8 = .pointer (some ⟨cb, 0, none⟩) ∧ Hid (Blk wx cb 38 #[slV z0, slV z1, slV z2]) ∧ Hid (IsSplit wx (.agg #[slV z0, slV z1, slV z2]) cut3 [[99]] []) ∧ Hid (Below w9.heap.size w9 wx))
            case first =>
              go_region_held3 (fun wx => Below w9.heap.size w9 wx)
                (repeat (first | with_reducible assumption | with_reducible exact Below.refl _ _ | with_reducible refine bdrew ?_ | with_reducible refine keepP ?_ _))
                (fail)
              all_goals
                go_wp2
                go_meet
                first
                  | exact cut_close (blk_drew (Blk.new' _ _ _ (by simp))) (blk_drew (Blk.alloc (Blk.new' _ _ _ (by simp)) _)) (blk_drew (Blk.alloc (Blk.alloc (Blk.new _ _ _) _) _)) (bdrew (keepP (keepP (keepP (Below.refl _ _) _) _) _)) hP9.out
                  | exact cut_close (blk_drew (Blk.new' _ _ _ (by simp))) (blk_drew (Blk.alloc (Blk.alloc (Blk.new _ _ _) _) _)) (blk_drew (Blk.alloc (Blk.new' _ _ _ (by simp)) _)) (bdrew (keepP (keepP (keepP (Below.refl _ _) _) _) _)) hP9.out
                  | exact cut_close (blk_drew (Blk.alloc (Blk.new' _ _ _ (by simp)) _)) (blk_drew (Blk.new' _ _ _ (by simp))) (blk_drew (Blk.alloc (Blk.alloc (Blk.new _ _ _) _) _)) (bdrew (keepP (keepP (keepP (Below.refl _ _) _) _) _)) hP9.out
                  | exact cut_close (blk_drew (Blk.alloc (Blk.new' _ _ _ (by simp)) _)) (blk_drew (Blk.alloc (Blk.alloc (Blk.new _ _ _) _) _)) (blk_drew (Blk.new' _ _ _ (by simp))) (bdrew (keepP (keepP (keepP (Below.refl _ _) _) _) _)) hP9.out
                  | exact cut_close (blk_drew (Blk.alloc (Blk.alloc (Blk.new _ _ _) _) _)) (blk_drew (Blk.new' _ _ _ (by simp))) (blk_drew (Blk.alloc (Blk.new' _ _ _ (by simp)) _)) (bdrew (keepP (keepP (keepP (Below.refl _ _) _) _) _)) hP9.out
                  | exact cut_close (blk_drew (Blk.alloc (Blk.alloc (Blk.new _ _ _) _) _)) (blk_drew (Blk.alloc (Blk.new' _ _ _ (by simp)) _)) (blk_drew (Blk.new' _ _ _ (by simp))) (bdrew (keepP (keepP (keepP (Below.refl _ _) _) _) _)) hP9.out
            case rest =>
              obtain ⟨cb, z0, z1, z2, rfl, HCB, HCS, HB10⟩ := hcut
              obtain ⟨w10, hw10⟩ : ∃ w10, w10 = wc := ⟨_, rfl⟩
              subst hw10
              have hB69 : Below w6.heap.size w6 w10 := HB7.out.trans ((HB8.out.trans ((HB9.out.trans (HB10.out.mono HB9.out.size)).mono HB8.out.size)).mono HB7.out.size)
              have hB79 : Below w7.heap.size w7 w10 := HB8.out.trans ((HB9.out.trans (HB10.out.mono HB9.out.size)).mono HB8.out.size)
              obtain ⟨b3, o3, c3, p30, q30, p31, q31, p32, q32, rfl, hb3, d30, d31, d32⟩ := pcs3 (HA.out.below hB69)
              obtain ⟨b4, o4, c4, p40, q40, p41, q41, rfl, hb4, d40, d41⟩ := pcs2 (HB2.out.below hB69)
              have HP10 : Hid (IsPairs w10 (.slice (some ⟨tb, tf, none⟩) 7 tc) tab7) := Lib.hid (HP1.out.below hB69)
              have HNB10 := Lib.hid (HNB.out.below hB79 HNB.out.lt)
              have HNI10 := Lib.hid (HNI.out.below hB79)
              have HQB10 := Lib.hid (HQB.out.below HB10.out HQB.out.lt)
              have HQS10 := Lib.hid (HQS.out.below HB10.out)
              have HBW10 : Hid (Below w.heap.size w w10) := Lib.hid (HBW.out.trans (hB69.mono HBW.out.size))
              clear HA HB2 HP1 HNB HNI HQB HQS HBW HB7 HB8 HB9 HB10 hB69 hB79 hP9 hnA HZ8
              have HC1 := Lib.hid (fun wx => pieces_w (.slice none 0 0) [] 3 wx (nil_pairs _) (by decide) (by decide) (by decide))
              have HC2 := Lib.hid (fun wx (hx : Below w10.heap.size w10 wx) => pieces_w (.slice (some ⟨tb, tf, none⟩) 7 tc) tab7 0 wx (HP10.out.below hx) (by decide) (by decide) (by decide))
              rw [cut_nil] at HC1
              rw [cut_none] at HC2
              go_upto_region 15 with (first
                | (go_at_call_of 8 (Value.slice none 0 0); (refine (HC1.out _).mono ?_); rintro e w11 ⟨v11, rfl, hp11, hb11⟩; obtain ⟨a11, c11, rfl⟩ := pcs0 hp11; have HB11 := Lib.hid hb11; clear hp11 hb11)
                | (go_at_call_of 8 (Value.slice (some ⟨tb, tf, none⟩) 7 tc); (refine (HC2.out _ HB11.out).mono ?_); rintro e w12 ⟨v12, rfl, hp12, hb12⟩; obtain ⟨a12, c12, rfl⟩ := pcs0 hp12; have HB12 : Hid (Below w10.heap.size w10 w12) := Lib.hid (HB11.out.trans (hb12.mono HB11.out.size)); clear hp12 hb12)
                | fail)
              obtain ⟨W, hW⟩ : ∃ W, W = w12.alloc (.cells #[.int .i64 2, .int .i64 2, .int .i64 1] 32) := ⟨_, rfl⟩
              have hBW : Below w10.heap.size w10 W := by rw [hW]; exact HB12.out.alloc HB12.out.size _
              have hBS : Blk W w12.heap.size 32 #[.int .i64 2, .int .i64 2, .int .i64 1] := by rw [hW]; exact Blk.new _ _ _
              rw [← hW]
              clear hW d30 d31 d32 d40 d41 HC1 HC2
              have HWW : Hid (Below w.heap.size w W) := Lib.hid (HBW10.out.trans (hBW.mono HBW10.out.size))
              obtain ⟨e0, e1, e2, -⟩ := three_at hBS
              have e0 := cell_all e0
              have e1 := cell_all e1
              have e2 := cell_all e2
              obtain ⟨f0, f1, f2, -⟩ := three_at (HCB.out.below hBW HCB.out.lt)
              have f0 := cell_all f0
              have f1 := cell_all f1
              have f2 := cell_all f2
              obtain ⟨g0, g1, g2, -⟩ := three_at (HQB10.out.below hBW HQB10.out.lt)
              have g0 := cell_all g0
              have g1 := cell_all g1
              have g2 := cell_all g2
              obtain ⟨h0, h1, h2, h3, h4, -⟩ := five_ok (HNB10.out.below hBW HNB10.out.lt)
              have h0 := cell_all h0
              have h1 := cell_all h1
              have h2 := cell_all h2
              have h3 := cell_all h3
              have h4 := cell_all h4
              dsimp only [slV] at f0 f1 f2 g0 g1 g2 h0 h1 h2 h3 h4
              have HL1 := Lib.hid (fun wx (hx : Below W.heap.size W wx) => leaf_w (.agg #[.slice (some ⟨tb, tf, none⟩) 3 tc, .slice none 0 0, .slice none 0 0, .slice none 0 0, .slice none 0 0]) ⟨tab7.take 3, [], [], [], []⟩ 2 2 1 wx ⟨_, _, _, _, _, rfl, pairs_take13 ((HP10.out.below hBW).below hx) 3 (by decide) (by decide), nil_strs _, nil_ints _, nil_sums _, nil_msgs _⟩ (by decide) (by decide) (by decide))
              have HI1 := Lib.hid (fun wx (hx : Below W.heap.size W wx) => inner_w _ nod5 2 2 1 wx ((HNI10.out.below hBW).below hx) (by decide) (by decide) rfl rfl (by decide) (by decide) (by decide))
              have HL2 := Lib.hid (fun wx => leaf_w (.agg #[.slice none 0 0, .slice none 0 0, .slice none 0 0, .slice none 0 0, .slice none 0 0]) noNd 2 2 1 wx (nil_node _) (by decide) (by decide) (by decide))
              have HCS2 := Lib.hid (HCS.out.below hBW)
              have HQS2 := Lib.hid (HQS10.out.below hBW)
              have e3 := cut3_eq.1
              have e4 := cut3_eq.2
              have e5 := want5_eq.1
              have e6 := want5_eq.2
              have e7 : leafN [] 2 = [noNd] ∧ leafP [] 2 = [] := ⟨rfl, rfl⟩
              have HE := Lib.hid (And.intro e3 (And.intro e4 (And.intro e5 (And.intro e6 e7))))
              clear e3 e4 e5 e6 e7 hBW hBS HCB HQB10 HNB10 HCS HQS10 HNI10 HP10 HB11 HB12
              dsimp only [slV] at HI1 HCS2 HQS2
              go_region_held3 (fun wx => Below W.heap.size W wx)
                (repeat (first | with_reducible assumption | with_reducible exact Below.refl _ _ | with_reducible refine bdrew ?_ | with_reducible refine keepP ?_ _))
                (first
                  | (go_at_call_of 11 (Value.agg #[Value.slice (some ⟨tb, tf, none⟩) 3 tc, Value.slice none 0 0, Value.slice none 0 0, Value.slice none 0 0, Value.slice none 0 0]); (refine (HL1.out _ (by first | exact Below.refl _ _ | exact bdrew (Below.refl _ _))).mono ?_); rintro e w21 ⟨v21, rfl, hs21, hb21⟩; have hS21 : Below W.heap.size W w21 := (bdrew (Below.refl W.heap.size W)).trans hb21; have hc21 : IsSplit w21 v21 cut3 [[99]] [] := hs21; clear hs21 hb21)
                  | (go_at_call_of 16 v21; (refine (same_w v21 _ cut3 [[99]] [] _ hc21 (HCS2.out.below hS21) (by decide)).mono ?_); rintro e w22 ⟨rfl, hb22⟩; have hS22 : Below W.heap.size W w22 := hS21.trans (hb22.mono hS21.size); clear hb22)
                  | (go_at_call 13; (refine (HI1.out _ hS22).mono ?_); rintro e w23 ⟨v23, rfl, hs23, hb23⟩; have hS23 : Below W.heap.size W w23 := hS22.trans (hb23.mono hS22.size); have hc23 : IsSplit w23 v23 want5 [[99], [101]] [delK] := hs23; clear hs23 hb23)
                  | (go_at_call_of 16 v23; (refine (same_w v23 _ want5 [[99], [101]] [delK] _ hc23 (HQS2.out.below hS23) (by decide)).mono ?_); rintro e w24 ⟨rfl, hb24⟩; have hS24 : Below W.heap.size W w24 := hS23.trans (hb24.mono hS23.size); clear hb24)
                  | (go_at_call 11; (refine (HL2.out _).mono ?_); rintro e w25 ⟨v25, rfl, hs25, hb25⟩; (first | (have hlit := (lit_split w24).below hb25) | skip); have hS25 : Below W.heap.size W w25 := (show Below W.heap.size W _ by first | exact hS24 | exact hS24.alloc hS24.size _).trans (hb25.mono (by first | exact hS24.size | exact Nat.le_trans hS24.size (by simp))); have hc25 : IsSplit w25 v25 [noNd] [] [] := hs25; clear hs25 hb25)
                  | (go_at_call_of 16 v25; (refine (same_w v25 _ [noNd] [] [] _ (by first | exact hc25 | exact hc25.below (below_box _)) (by first | exact hlit | exact lit_split _) (by decide)).mono ?_); rintro e w26 ⟨rfl, hb26⟩; have hS26 : Below W.heap.size W w26 := (show Below W.heap.size W _ by first | exact hS25 | exact hS25.alloc hS25.size _).trans (hb26.mono (by first | exact hS25.size | exact Nat.le_trans hS25.size (by simp))); clear hb26)
                  | fail "no arm")
              all_goals
                have HS26 := Lib.hid hS26
                clear hS26
                go_wp2
                go_ret
                exact ⟨rfl, HWW.out.trans (HS26.out.mono HWW.out.size)⟩

end Go.Proofs.Ythpajecigkfajaa
