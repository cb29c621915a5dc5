/-
  Walks: the reference's Text, Split, Join, Under, IsBody, right, Key.
-/
import Derived.Test.YticlomakmcjcfaaVD
import Derived.Test.YticlomakmcjcfaaVB
namespace Go.Proofs.Yticlomakmcjcfaa
open Go.RowKit Go.Sort
set_option linter.unusedVariables false
set_option maxRecDepth 100000

set_option maxHeartbeats 4000000 in
theorem rtext_w (p : Bs) (w : World) (hs : p.length ≤ 90000) (hv : validB p = true) :
    Calls Try.prog 29 #[.string (Str p)] w fun e w' => e = .returned (.string (Str (textS p))) ∧ w = w' := by
  by_cases hp : p = []
  · subst hp
    clear hv
    have H : Hid (textS [] = [47]) := Lib.hid textS_nil
    go_enter Try.func29, Try.ntmps29
    go_wp2
    go_ret
    rw [H.out]
    exact ⟨rfl, rfl⟩
  · obtain ⟨q, rfl⟩ := valid_end hv hp
    have H := Lib.hid (textS_slash q)
    have d : (q ++ [47] == []) = false := by rw [beq_eq_false_iff_ne]; simp
    have hl : (q ++ [47]).length = q.length + 1 := by simp
    have hx : (Str (q ++ [47])).extract 0 q.length = Str q := by rw [extract_Str0]; simp
    have hlq : q.length ≤ 90000 := by omega
    clear hv hp
    generalize q ++ [47] = r at *
    go_enter Try.func29, Try.ntmps29
    go_wp2
    go_ret
    rw [H.out]
    refine ⟨ret_str ?_, rfl⟩
    first | rfl | simp [hx, hl]

set_option maxHeartbeats 4000000 in
theorem rjoin_w (p m : Bs) (w : World) (hp : p.length ≤ 90000) (hm : m.length ≤ 90000) :
    Calls Try.prog 19 #[.string (Str p), .string (Str m)] w fun e w' => e = .returned (.tuple #[.string (Str (joinS p m).1), .int .i64 (joinS p m).2]) ∧ Below w.heap.size w w' := by
  have Hv := Lib.hid (rvalid_w p w hp)
  have Hn := Lib.hid (fun wx => rname_w m wx (by unfold maxLen; omega))
  cases hV : validB p with
  | false =>
    have H : Hid (joinS p m = ([], 10)) := Lib.hid (by unfold joinS; rw [if_neg (by rw [hV]; simp)])
    have HV := Lib.hid hV
    clear hV
    go_enter Try.func19, Try.ntmps19
    go_wp2_with (go_at_call 23; refine Hv.out.mono ?_; rw [HV.out]; rintro e w1 ⟨rfl, hb⟩)
    go_ret2
    rw [H.out]
    exact ⟨rfl, hb⟩
  | true =>
    cases hN : nameB m with
    | false =>
      have H : Hid (joinS p m = ([], 11)) := Lib.hid (by unfold joinS; rw [if_pos hV, if_neg (by rw [hN]; simp)])
      have HV := Lib.hid hV
      have HN := Lib.hid hN
      clear hV hN
      go_enter Try.func19, Try.ntmps19
      go_wp2_with (first
        | (go_at_call 23; refine Hv.out.mono ?_; rw [HV.out]; rintro e w1 ⟨rfl, hb⟩)
        | (go_at_call 96; refine (Hn.out _).mono ?_; rw [HN.out]; rintro e w1 ⟨rfl, rfl⟩))
      go_ret2
      rw [H.out]
      exact ⟨rfl, hb⟩
    | true =>
      by_cases h : p.length + m.length + 1 ≤ 200
      · have H : Hid (joinS p m = (p ++ m ++ [47], 0)) := Lib.hid (by unfold joinS; rw [if_pos hV, if_pos hN, if_pos h])
        have HV := Lib.hid hV
        have HN := Lib.hid hN
        clear hV hN
        go_enter Try.func19, Try.ntmps19
        go_wp2_with (first
          | (go_at_call 23; refine Hv.out.mono ?_; rw [HV.out]; rintro e w1 ⟨rfl, hb⟩)
          | (go_at_call 96; refine (Hn.out _).mono ?_; rw [HN.out]; rintro e w1 ⟨rfl, rfl⟩))
        go_ret2
        rw [H.out]
        refine ⟨ret2 ?_ rfl, hb⟩
        simp
      · have H : Hid (joinS p m = ([], 2)) := Lib.hid (by unfold joinS; rw [if_pos hV, if_pos hN, if_neg h])
        have HV := Lib.hid hV
        have HN := Lib.hid hN
        clear hV hN
        go_enter Try.func19, Try.ntmps19
        go_wp2_with (first
          | (go_at_call 23; refine Hv.out.mono ?_; rw [HV.out]; rintro e w1 ⟨rfl, hb⟩)
          | (go_at_call 96; refine (Hn.out _).mono ?_; rw [HN.out]; rintro e w1 ⟨rfl, rfl⟩))
        go_ret2
        rw [H.out]
        exact ⟨rfl, hb⟩

theorem prefix_take (p q : Bs) : q.isPrefixOf p = (decide (q.length ≤ p.length) && (p.take q.length == q)) := by
  rw [Bool.eq_iff_iff, List.isPrefixOf_iff_prefix]
  simp only [Bool.and_eq_true, decide_eq_true_eq, beq_iff_eq]
  constructor
  · intro h; exact ⟨h.length_le, (List.prefix_iff_eq_take.1 h).symm⟩
  · rintro ⟨h1, h2⟩; rw [← h2]; exact List.take_prefix _ _

set_option maxHeartbeats 4000000 in
theorem runder_w (p q : Bs) (w : World) (hp : p.length ≤ 90000) (hq : q.length ≤ 90000) :
    Calls Try.prog 27 #[.string (Str p), .string (Str q)] w fun e w' => e = .returned (.bool (q.isPrefixOf p)) ∧ w = w' := by
  have H := Lib.hid (prefix_take p q)
  by_cases h : q.length ≤ p.length
  · have hz : (q.length : Int) ≤ (p.length : Int) := by omega
    go_enter Try.func27, Try.ntmps27
    go_wp2
    go_ret
    refine ⟨ret_bool ?_, rfl⟩
    rw [H.out, decide_eq_true h]; simp
  · have hz : ¬ (q.length : Int) ≤ (p.length : Int) := by omega
    go_enter Try.func27, Try.ntmps27
    go_wp2
    go_ret
    refine ⟨ret_bool ?_, rfl⟩
    rw [H.out]; simp; omega

/-- The result's box. -/
def PtsAt (w wx : World) : Prop := Blk wx w.heap.size 37 #[.string (Str []), .string (Str []), .int .i64 0] ∧ Below w.heap.size w wx
theorem PtsAt.new (w : World) : PtsAt w (w.alloc (.cells #[.string (Str []), .string (Str []), .int .i64 0] 37)) := ⟨Blk.new _ _ _, (Below.refl _ w).alloc (Nat.le_refl _) _⟩
theorem PtsAt.below {w wx wy : World} (h : PtsAt w wx) (hb : Below wx.heap.size wx wy) : PtsAt w wy := ⟨h.1.below hb h.1.lt, Below.next h.2 (Nat.le_refl _) hb⟩
theorem PtsAt.facts {w wx : World} (h : PtsAt w wx) : (wx.cell? ⟨w.heap.size, 0, none⟩ = some (.string (Str [])) ∧ wx.cell? ⟨w.heap.size, 1, none⟩ = some (.string (Str [])) ∧ wx.cell? ⟨w.heap.size, 2, none⟩ = some (.int .i64 0)) ∧ (wx.frozen? ⟨w.heap.size, 0, none⟩ = false ∧ wx.frozen? ⟨w.heap.size, 1, none⟩ = false ∧ wx.frozen? ⟨w.heap.size, 2, none⟩ = false) :=
  ⟨⟨h.1.cell 0, h.1.cell 1, h.1.cell 2⟩, h.1.free 0, h.1.free 1, h.1.free 2⟩
theorem PtsAt.done {w wx : World} (h : PtsAt w wx) (a b c : Value) : Below w.heap.size w (((wx.setCell ⟨w.heap.size, 0, none⟩ a).setCell ⟨w.heap.size, 1, none⟩ b).setCell ⟨w.heap.size, 2, none⟩ c) :=
  ((h.2.setCell (Nat.le_refl _) _).setCell (Nat.le_refl _) _).setCell (Nat.le_refl _) _
set_option maxHeartbeats 4000000 in
theorem rsplit_w (p : Bs) (w : World) (hp : p.length ≤ 90000) :
    Calls Try.prog 25 #[.string (Str p)] w fun e w' => e = .returned (splitV (splitS p).1 (splitS p).2.1 (splitS p).2.2) ∧ Below w.heap.size w w' := by
  have mixed := mixedA
  have Hv := Lib.hid (fun wx => rvalid_w p wx hp)
  have HP0 := Lib.hid (PtsAt.new w)
  cases hV : validB p with
  | false =>
    have H : Hid (splitS p = ([], [], 10)) := Lib.hid (by unfold splitS; rw [if_neg (by rw [hV]; simp)])
    have HV := Lib.hid hV
    clear hV
    go_enter Try.func25, Try.ntmps25
    go_wp2_with (go_at_call 23; refine (Hv.out _).mono ?_; rw [HV.out]; rintro e w1 ⟨rfl, hb⟩; have P1 := HP0.out.below hb; obtain ⟨⟨c0, c1, c2⟩, f0, f1, f2⟩ := P1.facts; have HP1 := Lib.hid P1; clear hb P1)
    refine bodyPost_ret (v := splitV [] [] 10) (by simp [results, Try.results25, go_sem, splitV, c0, c1, c2]; rfl) rfl ⟨by rw [H.out], HP1.out.done _ _ _⟩
  | true =>
    by_cases h0 : p = []
    · subst h0
      have H := Lib.hid splitS_nil
      have HV := Lib.hid hV
      have Hn := Lib.hid (fun wx => rnames_w [] wx (by simp))
      clear hV
      go_enter Try.func25, Try.ntmps25
      go_wp2_with (first
        | (go_at_call 23; refine (Hv.out _).mono ?_; rw [HV.out]; rintro e w1 ⟨rfl, hb⟩; have HP1 := Lib.hid (HP0.out.below hb); clear hb)
        | (go_at_call 100; refine (Hn.out _).mono ?_; rintro e w2 ⟨v', rfl, hl, hb2⟩; obtain ⟨g, off, cap, q, rfl, hlc, hcm, _⟩ := hl.form; have P2 := HP1.out.below hb2; obtain ⟨⟨c0, c1, c2⟩, f0, f1, f2⟩ := P2.facts; have HP2 := Lib.hid P2; clear hl hb2 P2))
      refine bodyPost_ret (v := splitV [] [] 337) (by simp [results, Try.results25, go_sem, splitV, c0, c1, c2]; rfl) rfl ⟨by rw [H.out], HP2.out.done _ _ _⟩
    · obtain ⟨b, m, hn, he, hsp⟩ := names_ne hV h0
      have H := Lib.hid hsp
      have HV := Lib.hid hV
      have Hn := Lib.hid (fun wx => rnames_w p wx hp)
      have HN := Lib.hid hn
      have hlen : p.length = (joinN b).length + m.length + 1 := by rw [he]; simp; omega
      have htk : p.take (joinN b).length = joinN b := by
        rw [he, List.append_assoc]
        exact List.take_left
      have hbl : (b ++ [m]).length = b.length + 1 := by simp
      have hbn : b.length + 1 ≤ 90000 := by have := (namesS_len p).1; rw [hn] at this; simp at this; omega
      have hcut : IntKind.i64.wrap (IntKind.i64.wrap ((p.length : Int) - m.length) - 1) = ((joinN b).length : Int) := by rw [IntKind.wrap_i64, IntKind.wrap_i64]; omega
      generalize joinN b = jb at *
      clear hV h0 he hsp hn
      go_enter Try.func25, Try.ntmps25
      go_wp2_with (first
        | (go_at_call 23; refine (Hv.out _).mono ?_; rw [HV.out]; rintro e w1 ⟨rfl, hb⟩; have HP1 := Lib.hid (HP0.out.below hb); clear hb)
        | (go_at_call 100; refine (Hn.out _).mono ?_; rw [HN.out]; rintro e w2 ⟨v', rfl, hl, hb2⟩; obtain ⟨g, off, cap, q, rfl, hlc, hcm, hpp, hcc⟩ := hl.form; obtain ⟨rfl, c0'⟩ := hcc b.length (by simp); rw [List.getElem_concat_length rfl] at c0'; unfold maxLen at hcm; rw [hbl] at hlc; have P2 := HP1.out.below hb2; obtain ⟨⟨c0, c1, c2⟩, f0, f1, f2⟩ := P2.facts; have HP2 := Lib.hid P2; clear hl hpp hcc hb2 P2))
      refine bodyPost_ret (v := splitV jb m 0) (by simp [results, Try.results25, go_sem, splitV, c0, c1, c2]; rw [show jb.length + m.length + 1 - m.length - 1 = jb.length by omega, htk]) rfl ⟨by rw [H.out], HP2.out.done _ _ _⟩

end Go.Proofs.Yticlomakmcjcfaa
