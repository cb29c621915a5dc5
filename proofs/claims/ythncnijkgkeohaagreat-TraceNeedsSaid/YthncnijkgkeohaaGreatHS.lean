/-
  Walks: keys put into a normal list of spans.
-/
import Derived.Test.YthncnijkgkeohaaGreatHR
namespace Go.Proofs.YthncnijkgkeohaaGreat
open Go.RowKit Go.Sort
set_option linter.unusedVariables false

theorem concatB_w (wx : World) (vm vu : Value) (mid more : List Sp) (T2 : TypeId) (h : IsSpans wx vm mid) (h2 : IsSpans wx vu more) (hl : mid.length ≤ 1000) (hl2 : more.length ≤ 1000) :
    Calls Tryz.prog 128 #[.slice (some ⟨wx.heap.size, 0, none⟩) 2 2] (wx.alloc (.cells #[vm, vu] T2)) fun e w' =>
      ∃ v', e = .returned v' ∧ w'.ownsRow (wx.heap.size + 1) 29 2 v' (mid ++ more).length ((mid ++ more).flatMap encS) ∧ Below wx.heap.size wx w' := by
  have B2 : Blk (wx.alloc (.cells #[vm, vu] T2)) wx.heap.size T2 [vm, vu].toArray := Blk.new _ _ _
  have hb : Below wx.heap.size wx (wx.alloc (.cells #[vm, vu] T2)) := below_box _
  refine (concatD_w T2 _ _ [mid, more] _ B2 rfl (by simp) (fun i hi hv => ?_) (by simp; omega)).mono ?_
  · have : i = 0 ∨ i = 1 := by simp at hi; omega
    rcases this with rfl | rfl
    · exact h.below hb
    · exact h2.below hb
  · rintro e w' ⟨v', rfl, ho, hbl⟩
    refine ⟨v', rfl, ?_, hb.trans (hbl.mono (by simp))⟩
    simpa using ho

set_option maxRecDepth 100000 in
set_option maxHeartbeats 8000000 in
theorem with_w (base : Nat) (v u : Value) (D more : List Sp) (s : Sp) (w : World) (hu : IsSpans w u more) (hml : more.length ≤ 400) (hm : ∀ k, InL more k → HasS s k) (hv : w.ownsRow base 29 2 v D.length (D.flatMap encS)) (hn : Nrm D) (hb : base ≤ w.heap.size) (hl : D.length ≤ 400) :
    Calls Tryz.prog 102 #[v, strS s, u] w fun e w' => ∃ v', e = .returned v' ∧ w'.ownsRow base 29 2 v' (normS (D ++ more)).length ((normS (D ++ more)).flatMap encS) ∧ Turn v v' w w' := by
  have mixed := mixedA
  have Hown := Lib.hid hv
  obtain ⟨pu, cu, rfl, huc, hum, -⟩ := id hu
  unfold maxLen at hum
  have HU := Lib.hid hu
  clear hu
  obtain ⟨pd, capd, rfl, hnd, hmd, hpd⟩ := own_form hv
  unfold maxLen at hmd
  clear hpd
  have HN := Lib.hid (fun wx (hx : Below w.heap.size w wx) => near_w _ D s wx (IsSpans.owned (owns_below Hown.out hx)) hn (by omega))
  have hab := fromS_le D s
  have hbl2 := toS_le D s
  have HADD := Lib.hid (near_with hn s more hm)
  have hmid : IsSpans w (sliced pd (fromS D s) (toS D s) capd 2) (midS D s) := spans_sliced (IsSpans.owned Hown.out) _ _ hab hbl2
  have hmlen : (midS D s).length ≤ D.length := by unfold midS; rw [List.length_drop, List.length_take]; omega
  have hsl := slice_lhD pd D.length capd (fromS D s) (toS D s) hab (by omega)
  obtain ⟨pm, nm, cm, hvm⟩ : ∃ pm nm cm, sliced pd (fromS D s) (toS D s) capd 2 = .slice pm nm cm := ⟨_, _, _, rfl⟩
  rw [hvm] at hsl hmid
  have HMID := Lib.hid hmid
  clear hvm hmid hn hv hm
  have Hbase := Lib.hid hb
  clear hb
  generalize midS D s = mid at *
  generalize fromS D s = fa at *
  generalize toS D s = fb at *
  obtain ⟨lo, hi⟩ := s
  simp only [strS] at HN ⊢
  have hbw : Below w.heap.size w (w.alloc (.cells #[.string (Str lo), .string (Str hi)] 29)) := below_box _
  have HBW := Lib.hid hbw
  clear hbw
  go_enter Tryz.func102, Tryz.ntmps102
  go_wp2_with (go_at_call 124; refine (HN.out _ HBW.out).mono ?_; rintro e w2 ⟨rfl, hg2⟩; have HG2 := Lib.hid hg2; clear hg2)
  have hbel2 : Below w.heap.size w w2 := HBW.out.trans (HG2.out.below (by simp))
  have hmid2 := HMID.out.below hbel2
  have hown2 := owns_below Hown.out hbel2
  have hvl : ∀ j, (Value.slice pd D.length capd).ownBlock = some j → j < w.heap.size := fun j hj => (Hown.out.lt j hj).2
  have hsz2 := hbel2.size
  have hB2 : Blk w2 w.heap.size 29 #[.string (Str lo), .string (Str hi)] := HG2.out.blk (Blk.new _ _ _)
  have hne2 : some w.heap.size ≠ (Value.slice pd D.length capd).ownBlock := fun he => by have := hvl _ he.symm; omega
  have hx0 : ∀ wx, w2.grownBy wx (Value.slice pd D.length capd).ownBlock → wx.cell? ⟨w.heap.size, 0, none⟩ = some (.string (Str lo)) := fun wx hx => hx.cell (hB2.c0 0 _ rfl) hne2
  have hx1 : ∀ wx, w2.grownBy wx (Value.slice pd D.length capd).ownBlock → wx.cell? ⟨w.heap.size, 1, none⟩ = some (.string (Str hi)) := fun wx hx => hx.cell (hB2.c0 1 _ rfl) hne2
  have HS0 : Hid (w2.grownBy w2 (Value.slice pd D.length capd).ownBlock) := Lib.hid (grownBy_refl _ _)
  have hln : (normS (mid ++ more)).length ≤ 1000 := by have := norm_length (mid ++ more); rw [List.length_append] at this; omega
  have hu2 := HU.out.below hbel2
  have HCAT : Hid (∀ T1, Calls Tryz.prog 128 #[.slice (some ⟨w2.heap.size, 0, none⟩) 2 2] (w2.alloc (.cells #[.slice pm nm cm, .slice pu more.length cu] T1)) fun e w' =>
    ∃ v', e = .returned v' ∧ w'.ownsRow (w2.heap.size + 1) 29 2 v' (mid ++ more).length ((mid ++ more).flatMap encS) ∧ Below w2.heap.size w2 w') := Lib.hid (fun T1 => concatB_w w2 (.slice pm nm cm) (.slice pu more.length cu) mid more T1 hmid2 hu2 (by omega) (by omega))
  have HNORM : Hid (∀ v3 wx, wx.ownsRow (w2.heap.size + 1) 29 2 v3 (mid ++ more).length ((mid ++ more).flatMap encS) → Calls Tryz.prog 94 #[v3] wx fun e w' => ∃ v, e = .returned v ∧ w'.ownsRow wx.heap.size 29 2 v (normS (mid ++ more)).length ((normS (mid ++ more)).flatMap encS) ∧ Below wx.heap.size wx w') := Lib.hid (fun v3 wx h => norm_w v3 _ wx (IsSpans.owned h) (by rw [List.length_append]; omega))
  have HREP : Hid (∀ v4 w3 w4, Below w2.heap.size w2 w3 → Below w3.heap.size w3 w4 → w4.ownsRow w3.heap.size 29 2 v4 (normS (mid ++ more)).length ((normS (mid ++ more)).flatMap encS) → Calls Tryz.prog 125 #[.slice pd D.length capd, .int .i64 fa, .int .i64 fb, v4] w4 fun e w' => ∃ v', e = .returned v' ∧ w'.ownsRow base 29 2 v' (normS (D ++ more)).length ((normS (D ++ more)).flatMap encS) ∧ Turn (.slice pd D.length capd) v' w w' ∧ w2.grownBy w' (Value.slice pd D.length capd).ownBlock) := Lib.hid (fun v4 w3 w4 h3 h4 h5 => by
    have h6 : Below w2.heap.size w2 w4 := h3.trans (h4.mono h3.size)
    have h7 := sreplace_w base w3.heap.size (.slice pd D.length capd) v4 D (normS (mid ++ more)) fa fb w4 (owns_below hown2 h6) h5 (fun j hj => Nat.lt_of_lt_of_le (hvl j hj) (Nat.le_trans hsz2 h3.size)) (by have := h6.size; have := Hbase.out; omega) hab hbl2 (by omega) (by omega)
    have h8 : D.take fa ++ normS (mid ++ more) ++ D.drop fb = normS (D ++ more) := HADD.out
    rw [h8] at h7
    exact h7.mono fun e w' ⟨v', a1, a2, a3⟩ => ⟨v', a1, a2, turn_below (hbel2.trans (h6.mono hsz2)) a3, (grownBy_below h6 _).trans a3.1⟩)
  clear hbel2 hmid2 hown2 hvl hB2 hne2 hln hu2
  go_wp2_with (first
      | (go_at_call 128; (refine (HCAT.out _).mono ?_); rintro e3 w3 ⟨v3, rfl, ho3, hb3⟩; have Ho3 := Lib.hid ho3; have Hb3 := Lib.hid hb3; clear ho3 hb3)
      | (go_at_call 94; (refine (HNORM.out _ _ Ho3.out).mono ?_); rintro e4 w4 ⟨v4, rfl, ho4, hb4⟩; have Ho4 := Lib.hid ho4; have Hb4 := Lib.hid hb4; clear ho4 hb4)
      | (go_at_call 125; (refine (HREP.out _ _ _ Hb3.out Hb4.out Ho4.out).mono ?_); rintro e5 w5 ⟨v5, rfl, ho5, ht5, hS5⟩; have Ho5 := Lib.hid ho5; have Ht5 := Lib.hid ht5; clear ho5 ht5 hS5))
  go_ret
  exact ⟨_, rfl, Ho5.out, Ht5.out⟩

end Go.Proofs.YthncnijkgkeohaaGreat
