/-
  Walk of the law NodeLengths.
-/
import Derived.Test.YtmbfghbhajmpiaaGreatYDE
import Derived.Test.YtmbfghbhajmpiaaGreatYDP
import Derived.Test.YtmbfghbhajmpiaaGreatYBB
namespace Go.Proofs.YtmbfghbhajmpiaaGreat
open Go.RowKit Go.Deep Go.Sort
set_option linter.unusedVariables false

theorem made_is {w : World} {B : Nat} {v : Value} {n : Nd} (h : OwnMade w B v n) : IsNode w v n := by
  obtain ⟨a, b, c, d, e, rfl, h, -⟩ := h
  exact h
theorem node_form {w : World} {v : Value} {n : Nd} (h : IsNode w v n) : ∃ a b c d e, v = .agg #[a, b, c, d, e] := by
  obtain ⟨a, b, c, d, e, rfl, -⟩ := h
  exact ⟨a, b, c, d, e, rfl⟩
theorem node_slices {w : World} {v : Value} {n : Nd} (h : IsNode w v n) : ∃ p0 n0 c0 p1 n1 c1 p2 n2 c2 p3 n3 c3 p4 n4 c4, v = .agg #[.slice p0 n0 c0, .slice p1 n1 c1, .slice p2 n2 c2, .slice p3 n3 c3, .slice p4 n4 c4] := by
  obtain ⟨a, b, c, d, e, rfl, ⟨p0, c0, rfl, -⟩, ⟨p1, c1, rfl, -⟩, ⟨p2, c2, rfl, -⟩, ⟨p3, c3, rfl, -⟩, ⟨p4, c4, rfl, -⟩⟩ := h
  exact ⟨_, _, _, _, _, _, _, _, _, _, _, _, _, _, _, rfl⟩
set_option maxRecDepth 100000 in
set_option maxHeartbeats 4000000 in
theorem nodeLengths_walk (w : World) (v0 : Value) (x : Rq) (h0 : IsRq w v0 x) (v1 : Value) (i : Nat) (h1 : IsU16q w v1 i) (v2 : Value) (more : Bs) (h2 : IsBytes w v2 more) :
    Calls Tryz.prog 5 #[v0, v1, v2] w fun e w' => e = .returned (.bool true) ∧ Below w.heap.size w w' := by
  have mixed := mixedA
  obtain ⟨rfl, hi⟩ := h1
  have HM := Lib.hid h2
  have hsm := h0.small
  obtain ⟨pm, cm, rfl, hml, hmm, -⟩ := h2
  unfold maxLen at hmm
  have hv := madeQ_valid x hsm
  have hp := madeQ_piv x
  have hf := madeQ_few x
  have hB1 := bytesNd_pos hv hp
  have hB2 := bytesQ_len x hsm
  have HP0 := Lib.hid (parseN_bytes _ hv hp hf)
  have HPM := Lib.hid (fun r hr => parseN_more _ r hr hv hp hf)
  have HPP := Lib.hid (fun k hk => parseN_pre _ k hv hp hf hk)
  have HMD := Lib.hid (fun wx (hb : Below w.heap.size w wx) => nmade_w v0 x wx (h0.below hb))
  have HBY := Lib.hid (fun v wx (h : IsNode wx v (madeQ x)) => nbytes_w v _ wx h (madeQ_smallN x))
  clear hv hp hf hsm
  generalize bytesNd (madeQ x) = B at *
  generalize madeQ x = n at *
  have hBp : 0 < B.length := List.length_pos_iff.2 hB1
  have hBz : 0 < ((B.length : Nat) : Int) := by omega
  have hBd : (((B.length : Nat) : Int) == 0) = false := by rw [beq_eq_false_iff_ne]; omega
  obtain ⟨k, hk, hmi⟩ : ∃ k : Nat, k < B.length ∧ (i : Int) % (B.length : Int) = (k : Int) := ⟨i % B.length, Nat.mod_lt _ (by omega), by rw [Int.natCast_emod]⟩
  obtain ⟨a0, b0, c0, d0, e0, rfl, -⟩ := h0
  clear hB1
  have hkz : (0 : Int) ≤ (k : Int) := by omega
  have hkB : (k : Int) ≤ (B.length : Int) := by omega
  by_cases h20 : more.length ≤ 20
  · have h20z : (more.length : Int) ≤ 20 := by omega
    have h20d : decide (20 < (more.length : Int)) = false := by simp; omega
    obtain ⟨fz, q, hPf, hq2, hfz⟩ : ∃ (fz : Int) (q : Bool), (if (parseN (B ++ more)).isSome then (0 : Int) else 100) = fz ∧ decide (0 < (more.length : Int)) = q ∧ (fz = 0 ∧ q = false ∨ fz = 100 ∧ q = true) := by
      by_cases hm : more = []
      · refine ⟨0, false, ?_, by rw [hm]; rfl, .inl ⟨rfl, rfl⟩⟩
        rw [hm, List.append_nil, HP0.out]; rfl
      · refine ⟨100, true, ?_, ?_, .inr ⟨rfl, rfl⟩⟩
        · rw [HPM.out _ hm]; rfl
        · have := List.length_pos_iff.2 hm
          simp; omega
    have HPf := Lib.hid hPf
    have HPk := Lib.hid (HPP.out k hk)
    obtain ⟨m5, hm5⟩ : ∃ m5, m5 = (B ++ more).length := ⟨_, rfl⟩
    have hm5z : m5 ≤ 4000000 := by rw [hm5, List.length_append]; omega
    have HM5 := Lib.hid hm5
    clear HP0 HPM HPP hPf hm5
    rcases hfz with ⟨rfl, rfl⟩ | ⟨rfl, rfl⟩
    all_goals
      go_enter Tryz.func5, Tryz.ntmps5
      go_wp2_with fail
      refine (nsan_w _).mono ?_
      rintro e1 w1 ⟨rfl, hb1⟩
      have H1 := Lib.hid ((below_box (w := w) (.cells #[a0, b0, c0, d0, e0] 27)).trans (hb1.mono (by simp)))
      have K1 : Hid (Blk w1 w.heap.size 27 #[a0, b0, c0, d0, e0]) := Lib.hid ((Blk.new _ _ _).below hb1 (by simp))
      clear hb1
      have k0 := K1.out.c0 0 _ rfl
      have k1 := K1.out.c0 1 _ rfl
      have k2 := K1.out.c0 2 _ rfl
      have k3 := K1.out.c0 3 _ rfl
      have k4 := K1.out.c0 4 _ rfl
      have hs1 := K1.out.lt
      go_wp2_with (first
        | (go_at_call 14; refine (HMD.out _ H1.out).mono ?_; rintro e w2 ⟨v2, rfl, hn2, hb2⟩; have HN2 := Lib.hid (made_is hn2); have H2 := Lib.hid (H1.out.trans (hb2.mono H1.out.size)); obtain ⟨a2, b2, c2, d2, e2, rfl⟩ := node_form HN2.out; clear hn2 hb2)
        | (go_at_call 19; refine (HBY.out _ _ HN2.out).mono ?_; rintro e w3 ⟨v3, rfl, ho3, hb3⟩; have HO3 := Lib.hid ho3; have H3 := Lib.hid (H2.out.trans (hb3.mono H2.out.size)); obtain ⟨q3, c3, rfl, hr1, hr2, hr3⟩ := ownB_form HO3.out; unfold maxLen at hr2; obtain ⟨g, rfl⟩ := hr3 hBp; obtain ⟨p1, n1, c1, hV1⟩ : ∃ p1 n1 c1, Value.slice p1 n1 c1 = sliced (some ⟨g, 0, none⟩) 0 k c3 1 := ⟨_, _, _, rfl⟩; have hs := fun wx => bslice_h (some ⟨g, 0, none⟩) B.length c3 k (by omega) (by unfold maxLen; omega) wx; have hq := HO3.out.is.sliced 0 k (Nat.zero_le _) (by omega); rw [List.drop_zero, ← hV1] at hq; rw [← hV1] at hs; have HQ := Lib.hid hq; clear ho3 hb3 hV1 hq hr3)
        | (at_builtin; refine append_bytesG rfl _ _ rfl w3.heap.size _ [] rfl (own_emptyB w3 w3.heap.size (Nat.le_refl _)) _ B rfl (HO3.out.is.below (below_box _)) (by simp only [List.length_nil]; omega) (by simp) ?_; intro v4 w4 ho4 hb4; rw [List.nil_append] at ho4; have HO4 := Lib.hid ho4; have H4 : Hid (Below w3.heap.size w3 w4) := Lib.hid ((below_box _).trans (hb4.mono (Nat.le_refl _))); obtain ⟨q4, c4, rfl, -⟩ := ownB_form HO4.out; clear ho4 hb4)
        | (at_builtin; refine append_bytesG rfl _ _ rfl w3.heap.size _ B rfl HO4.out _ more rfl (HM.out.below (H3.out.trans (H4.out.mono H3.out.size))) (by omega) H4.out.size ?_; intro v5 w5 ho5 hb5; have HO5 := Lib.hid ho5; have H5 : Hid (Below w3.heap.size w3 w5) := Lib.hid (H4.out.trans hb5); obtain ⟨q5, c5, rfl, -⟩ := ownB_form HO5.out; rw [← HM5.out]; clear ho5 hb5)
        | (go_at_call_of 20 (Value.slice p1 n1 c1); refine (nparse_w (.slice p1 n1 c1) _ _ (HQ.out.below H5.out)).mono ?_; rintro e w6 ⟨v6, rfl, hn6, hb6⟩; rw [HPk.out]; obtain ⟨x0, x1, x2, x3, x4, x5, x6, x7, x8, x9, xa, xb, xc, xd, xe, rfl⟩ := node_slices hn6.is; have H65 := Lib.hid hb6; have H6 : Hid (Below w3.heap.size w3 w6) := Lib.hid (H5.out.trans (hb6.mono H5.out.size)); clear hb6 hn6)
        | (go_at_call_of 20 (Value.slice q5 m5 c5); refine (nparse_w (.slice q5 m5 c5) (B ++ more) _ (by rw [HM5.out]; exact HO5.out.is.below (keepAQ H65.out _))).mono ?_; rintro e w7 ⟨v7, rfl, hn7, hb7⟩; rw [HPf.out]; obtain ⟨y0, y1, y2, y3, y4, y5, y6, y7, y8, y9, ya, yb, yc, yd, ye, rfl⟩ := node_slices hn7.is; have H7 : Hid (Below w3.heap.size w3 w7) := Lib.hid ((keepAQ H6.out _).trans (hb7.mono (keepAQ H6.out _).size)); clear hb7 hn7))
      all_goals first
        | (go_ret; exact ⟨rfl, H3.out.trans ((keepAQ H7.out _).mono H3.out.size)⟩)
        | (exfalso; rename_i hne; first | (have := List.length_pos_iff.2 hne; simp at hq2; exact hne hq2) | (simp at hq2; omega) | (simp at hq2; contradiction))
  · have h20z : (20 : Int) < (more.length : Int) := by omega
    have h20d : decide (20 < (more.length : Int)) = true := by simp; omega
    clear HP0 HPM HPP
    go_enter Tryz.func5, Tryz.ntmps5
    go_wp2_with fail
    refine (nsan_w _).mono ?_
    rintro e1 w1 ⟨rfl, hb1⟩
    have H1 := Lib.hid ((below_box (w := w) (.cells #[a0, b0, c0, d0, e0] 27)).trans (hb1.mono (by simp)))
    have K1 : Hid (Blk w1 w.heap.size 27 #[a0, b0, c0, d0, e0]) := Lib.hid ((Blk.new _ _ _).below hb1 (by simp))
    clear hb1
    have k0 := K1.out.c0 0 _ rfl
    have k1 := K1.out.c0 1 _ rfl
    have k2 := K1.out.c0 2 _ rfl
    have k3 := K1.out.c0 3 _ rfl
    have k4 := K1.out.c0 4 _ rfl
    have hs1 := K1.out.lt
    go_wp2_with (first
      | (go_at_call 14; refine (HMD.out _ H1.out).mono ?_; rintro e w2 ⟨v2, rfl, hn2, hb2⟩; have HN2 := Lib.hid (made_is hn2); have H2 := Lib.hid (H1.out.trans (hb2.mono H1.out.size)); obtain ⟨a2, b2, c2, d2, e2, rfl⟩ := node_form HN2.out; clear hn2 hb2)
      | (go_at_call 19; refine (HBY.out _ _ HN2.out).mono ?_; rintro e w3 ⟨v3, rfl, ho3, hb3⟩; have HO3 := Lib.hid ho3; have H3 := Lib.hid (H2.out.trans (hb3.mono H2.out.size)); obtain ⟨q3, c3, rfl, hr1, hr2, hr3⟩ := ownB_form HO3.out; clear ho3 hb3))
    go_ret
    exact ⟨rfl, H3.out⟩

end Go.Proofs.YtmbfghbhajmpiaaGreat
