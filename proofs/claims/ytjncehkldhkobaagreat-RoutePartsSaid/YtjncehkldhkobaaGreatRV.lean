/-
  Walks of package route: more spans are blocked.
-/
import Derived.Test.YtjncehkldhkobaaGreatRU
import Derived.Deep.RegionLawGrows
namespace Go.Proofs.YtjncehkldhkobaaGreat
open Go.RowKit Go.Sort
set_option linter.unusedVariables false

theorem sizeD : (sizeOf (Tryz.prog.elem 96)) = sizeOf 38 := by
  rw [show Tryz.prog.elem 96 = 38 by kernel_rfl]
theorem elemD : Tryz.prog.underlying 96 = some (.slice (Tryz.prog.elem 96)) := by
  rw [show Tryz.prog.elem 96 = 38 by kernel_rfl]; exact Tryz.underlying96
theorem slice_lhD (a : Option Addr) (n cap lo hi : Nat) (h1 : lo ≤ hi) (h2 : hi ≤ cap) (w : World) : (Instr.slice 96 (.slice a n cap) (some (.int .i64 lo)) (some (.int .i64 hi)) none).run Tryz.prog w = .ok (sliced a lo hi cap 2) w := by
  rw [run_slice_lh w 96 a n cap elemD .i64 .i64 lo hi (by omega) (by omega) (by omega), sizeD, Tryz.sizeOf38]; rfl
theorem spans_sliced {w : World} {a : Option Addr} {n cap : Nat} {l : List Sp} (h : IsSpans w (.slice a n cap) l) (lo hi : Nat) (h1 : lo ≤ hi) (h2 : hi ≤ l.length) :
    IsSpans w (sliced a lo hi cap 2) ((l.take hi).drop lo) := by
  obtain ⟨a', cap', e, hlc, hcm, hc⟩ := h
  cases e
  have hll : ((l.take hi).drop lo).length = hi - lo := by rw [List.length_drop, List.length_take]; omega
  refine ⟨_, cap - lo, by rw [hll]; rfl, by omega, by omega, fun hne => ?_⟩
  have hlt : lo < hi := by
    rcases Nat.lt_or_ge lo hi with h | h
    · exact h
    · exfalso; apply hne; apply List.length_eq_zero_iff.1; omega
  obtain ⟨b, off, rfl, hb, hcell⟩ := hc (by rintro rfl; simp at h2; omega)
  have hadd : (⟨b, off, none⟩ : Addr).add (lo * 2) = ⟨b, off + lo * 2, none⟩ := by unfold Addr.add; split <;> simp_all
  refine ⟨b, off + lo * 2, by rw [if_neg (by omega)]; simp [hadd], hb, fun i hi' => ?_⟩
  have hc3 := hcell (lo + i) (by rw [hll] at hi'; omega)
  have e3 : off + lo * 2 + i * 2 = off + (lo + i) * 2 := by omega
  rw [e3]
  simpa using hc3
theorem concat2_w (wx : World) (vm : Value) (mid : List Sp) (s : Sp) (T1 T2 : TypeId) (h : IsSpans wx vm mid) (hl : mid.length ≤ 1000) :
    Calls Tryz.prog 92 #[.slice (some ⟨wx.heap.size + 1, 0, none⟩) 2 2] ((wx.alloc (.cells #[.string (Str s.1), .string (Str s.2)] T1)).alloc (.cells #[vm, .slice (some ⟨wx.heap.size, 0, none⟩) 1 1] T2)) fun e w' =>
      ∃ v', e = .returned v' ∧ w'.ownsRow (wx.heap.size + 2) 38 2 v' (mid ++ [s]).length ((mid ++ [s]).flatMap encS) ∧ Below wx.heap.size wx w' := by
  have B2 : Blk ((wx.alloc (.cells #[.string (Str s.1), .string (Str s.2)] T1)).alloc (.cells #[vm, .slice (some ⟨wx.heap.size, 0, none⟩) 1 1] T2)) (wx.heap.size + 1) T2 [vm, .slice (some ⟨wx.heap.size, 0, none⟩) 1 1].toArray := Blk.new' _ _ _ (by simp)
  have hb : Below wx.heap.size wx ((wx.alloc (.cells #[.string (Str s.1), .string (Str s.2)] T1)).alloc (.cells #[vm, .slice (some ⟨wx.heap.size, 0, none⟩) 1 1] T2)) := ((Below.refl _ wx).alloc (Nat.le_refl _) _).alloc (by simp) _
  have h1 := (one_spans (w := wx) s T1 rfl).below (below_box (.cells #[vm, .slice (some ⟨wx.heap.size, 0, none⟩) 1 1] T2))
  refine (concatD_w T2 _ _ [mid, [s]] _ B2 rfl (by simp) (fun i hi hv => ?_) (by simp; omega)).mono ?_
  · have : i = 0 ∨ i = 1 := by simp at hi; omega
    rcases this with rfl | rfl
    · exact h.below hb
    · exact h1
  · rintro e w' ⟨v', rfl, ho, hbl⟩
    refine ⟨v', rfl, ?_, hb.trans (hbl.mono (by simp; omega))⟩
    simpa using ho

theorem keep_d {w wx : World} {row : Option Nat} (h : w.grownBy wx row) : w.grownBy wx.drew row := h.trans (grownBy_below (below_drewN wx 1) _)
theorem keep_a {w wx : World} {row : Option Nat} (h : w.grownBy wx row) (o : Obj) : w.grownBy (wx.alloc o) row := h.trans (World.grownBy_alloc _ _ _)
theorem turn_below {wr w4 w5 : World} {vd v5 : Value} (h2 : Below wr.heap.size wr w4) (ht : Turn vd v5 w4 w5) : Turn vd v5 wr w5 :=
  ⟨(grownBy_below h2 _).trans ht.1, fun j hj => (ht.2 j hj).imp (fun h => Nat.le_trans h2.size h) id⟩

theorem withL_take (l : List Sp) (b : List Sp) (k : Nat) (h : k < l.length) : withL b (l.take (k + 1)) = withS (withL b (l.take k)) l[k] := by
  unfold withL; rw [List.take_succ_eq_append_getElem h, List.foldl_append]; rfl
set_option maxRecDepth 100000 in
set_option maxHeartbeats 8000000 in
theorem with_w (base : Nat) (v u : Value) (l K : List Sp) (w : World) (hv : w.ownsRow base 38 2 v l.length (l.flatMap encS)) (ho : OrdD l) (hu : IsSpans w u K) (hne : ∀ s ∈ K, emptyB s = false)
    (hap : ∀ j, u.ownBlock = some j → v.ownBlock ≠ some j) (hb : base ≤ w.heap.size) (hl : l.length ≤ 400) (hK : K.length ≤ 10) :
    Calls Tryz.prog 76 #[v, u] w fun e w' => ∃ v', e = .returned v' ∧ w'.ownsRow base 38 2 v' (withL l K).length ((withL l K).flatMap encS) ∧ Turn v v' w w' := by
  have mixed := mixedA
  have Hb := Lib.hid (show base ≤ w.heap.size from hb)
  have hvlt := hv.lt
  have Hv := Lib.hid hv
  have Hvlt := Lib.hid hvlt
  have Ho := Lib.hid ho
  have Hne := Lib.hid hne
  have Hap := Lib.hid hap
  have HKS := Lib.hid hu
  obtain ⟨ak, capk, rfl, hkc, hkm, -⟩ := hu
  unfold maxLen at hkm
  clear hv hvlt ho hne hap
  go_enter Tryz.func76, Tryz.ntmps76
  go_wp2
  go_loopw [0, 11] (fun d i wr => ∃ k : Nat, k ≤ K.length ∧ i = .int .i64 k ∧ wr.ownsRow base 38 2 d (withL l (K.take k)).length ((withL l (K.take k)).flatMap encS) ∧ Turn v d w wr) (fun _ i _ => K.length - (intOf i).toNat)
  case atStart => exact ⟨0, Nat.zero_le _, rfl, Hv.out, turn_refl _ _⟩
  case round =>
    obtain ⟨k, hk, rfl, hown, htu⟩ := hrel
    have Hown := Lib.hid hown
    have Htu := Lib.hid htu
    have hsz := htu.1.size
    clear hown htu
    by_cases hlt : k < K.length
    · have hks := spans_turned HKS.out Htu.out.1 (fun j hj he => Hap.out j hj he)
      obtain ⟨b, off, cap, he, hbl, hlz, x0, x1⟩ := span_cells hks k hlt
      injection he with he1 he2 he3
      subst he1 he3
      clear he2
      have hltz : (k : Int) < (K.length : Int) := by omega
      have HNX := Lib.hid (withL_take K l k hlt)
      have hall := withL_ord (K.take k) l Ho.out (fun s hs => Hne.out s (List.mem_of_mem_take hs))
      have HDN := Lib.hid hall.1
      have hdl : (withL l (K.take k)).length ≤ 410 := by
        have h1 := hall.2.2
        have h2 : (K.take k).length ≤ 10 := by rw [List.length_take]; omega
        omega
      have hse := (emptyB_no _).1 (Hne.out K[k] (List.getElem_mem hlt))
      clear hks hall
      generalize K[k] = s at *
      generalize withL l (K.take k) = D at *
      obtain ⟨pd, capd, rfl, hnd, hmd, hpd⟩ := own_form Hown.out
      unfold maxLen at hmd
      clear hpd
      have HN := Lib.hid (fun wx (hx : Below wr.heap.size wr wx) => meeting_w _ D s wx (IsSpans.owned (owns_below Hown.out hx)) HDN.out (by omega))
      have hab := bfrom_le HDN.out hse
      have hbl2 := bto_len D s
      have HADD : Hid (D.take (bfrom D s) ++ normS ((D.take (bto D s)).drop (bfrom D s) ++ [s]) ++ D.drop (bto D s) = withS D s) := Lib.hid (by unfold withS; rw [List.append_assoc])
      have hmid : IsSpans wr (sliced pd (bfrom D s) (bto D s) capd 2) ((D.take (bto D s)).drop (bfrom D s)) := spans_sliced (IsSpans.owned Hown.out) _ _ hab hbl2
      have hmlen : ((D.take (bto D s)).drop (bfrom D s)).length ≤ D.length := by rw [List.length_drop, List.length_take]; omega
      have hsl := slice_lhD pd D.length capd (bfrom D s) (bto D s) hab (by omega)
      obtain ⟨pm, nm, cm, hvm⟩ : ∃ pm nm cm, sliced pd (bfrom D s) (bto D s) capd 2 = .slice pm nm cm := ⟨_, _, _, rfl⟩
      rw [hvm] at hsl hmid
      have HMID := Lib.hid hmid
      clear hvm hmid hse
      generalize (D.take (bto D s)).drop (bfrom D s) = mid at *
      generalize bfrom D s = fa at *
      generalize bto D s = fb at *
      have hbw : Below wr.heap.size wr (wr.alloc (.cells #[.string (Str s.1), .string (Str s.2)] 38)) := below_box _
      have HBW := Lib.hid hbw
      clear hbw
      go_wp2_with (go_at_call 89; refine (HN.out _ HBW.out).mono ?_; rintro e w2 ⟨rfl, hg2⟩; have HG2 := Lib.hid hg2; clear hg2)
      have hbel2 : Below wr.heap.size wr w2 := HBW.out.trans (HG2.out.below (by simp))
      have hmid2 := HMID.out.below hbel2
      have hown2 := owns_below Hown.out hbel2
      have hvl : ∀ j, (Value.slice pd D.length capd).ownBlock = some j → j < wr.heap.size := fun j hj => (Hown.out.lt j hj).2
      have hsz2 := hbel2.size
      have hB2 : Blk w2 wr.heap.size 38 #[.string (Str s.1), .string (Str s.2)] := HG2.out.blk (Blk.new _ _ _)
      have hne2 : some wr.heap.size ≠ (Value.slice pd D.length capd).ownBlock := fun he => by have := hvl _ he.symm; omega
      have hx0 : ∀ wx, w2.grownBy wx (Value.slice pd D.length capd).ownBlock → wx.cell? ⟨wr.heap.size, 0, none⟩ = some (.string (Str s.1)) := fun wx hx => hx.cell (hB2.c0 0 _ rfl) hne2
      have hx1 : ∀ wx, w2.grownBy wx (Value.slice pd D.length capd).ownBlock → wx.cell? ⟨wr.heap.size, 1, none⟩ = some (.string (Str s.2)) := fun wx hx => hx.cell (hB2.c0 1 _ rfl) hne2
      have HS0 : Hid (w2.grownBy w2 (Value.slice pd D.length capd).ownBlock) := Lib.hid (grownBy_refl _ _)
      have HCAT : Hid (∀ T1 T2, Calls Tryz.prog 92 #[.slice (some ⟨w2.heap.size + 1, 0, none⟩) 2 2] ((w2.drew.alloc (.cells #[.string (Str s.1), .string (Str s.2)] T1)).alloc (.cells #[.slice pm nm cm, .slice (some ⟨w2.heap.size, 0, none⟩) 1 1] T2)) fun e w' =>
        ∃ v', e = .returned v' ∧ w'.ownsRow (w2.heap.size + 2) 38 2 v' (mid ++ [s]).length ((mid ++ [s]).flatMap encS) ∧ Below w2.heap.size w2 w') := Lib.hid (fun T1 T2 => (concat2_w w2.drew (.slice pm nm cm) mid s T1 T2 (hmid2.below (below_drewN w2 1)) (by omega)).mono fun e w' ⟨v', a1, a2, a3⟩ => ⟨v', a1, a2, (show Below w2.heap.size w2 w2.drew from below_drewN w2 1).trans a3⟩)
      have hln : (normS (mid ++ [s])).length ≤ 1000 := by have := normS_len (mid ++ [s]); simp at this; omega
      have HNORM : Hid (∀ v3 wx, wx.ownsRow (w2.heap.size + 2) 38 2 v3 (mid ++ [s]).length ((mid ++ [s]).flatMap encS) → Calls Tryz.prog 91 #[v3] wx fun e w' => ∃ v, e = .returned v ∧ w'.ownsRow wx.heap.size 38 2 v (normS (mid ++ [s])).length ((normS (mid ++ [s])).flatMap encS) ∧ Below wx.heap.size wx w') := Lib.hid (fun v3 wx h => norm_w v3 _ wx (IsSpans.owned h) (by simp; omega))
      have HREP : Hid (∀ v4 w3 w4, Below w2.heap.size w2 w3 → Below w3.heap.size w3 w4 → w4.ownsRow w3.heap.size 38 2 v4 (normS (mid ++ [s])).length ((normS (mid ++ [s])).flatMap encS) → Calls Tryz.prog 90 #[.slice pd D.length capd, .int .i64 fa, .int .i64 fb, v4] w4 fun e w' => ∃ v', e = .returned v' ∧ w'.ownsRow base 38 2 v' (withS D s).length ((withS D s).flatMap encS) ∧ Turn (.slice pd D.length capd) v' wr w' ∧ w2.grownBy w' (Value.slice pd D.length capd).ownBlock) := Lib.hid (fun v4 w3 w4 h3 h4 h5 => by
        have h6 : Below w2.heap.size w2 w4 := h3.trans (h4.mono h3.size)
        have h7 := sreplace_w base w3.heap.size (.slice pd D.length capd) v4 D (normS (mid ++ [s])) fa fb w4 (owns_below hown2 h6) h5 (fun j hj => Nat.lt_of_lt_of_le (hvl j hj) (Nat.le_trans hsz2 h3.size)) (by have := h6.size; have := Hb.out; omega) hab hbl2 (by omega) (by omega)
        have h8 : D.take fa ++ normS (mid ++ [s]) ++ D.drop fb = withS D s := HADD.out
        rw [h8] at h7
        exact h7.mono fun e w' ⟨v', a1, a2, a3⟩ => ⟨v', a1, a2, turn_below (hbel2.trans (h6.mono hsz2)) a3, (grownBy_below h6 _).trans a3.1⟩)
      clear hbel2 hmid2 hown2 hvl hB2 hne2 hln
      go_region_held3 (fun wx => w2.grownBy wx (Value.slice pd D.length capd).ownBlock)
        (repeat (first | with_reducible assumption | with_reducible exact HS0.out | with_reducible refine keep_d ?_ | with_reducible refine keep_a ?_ _))
        (first
          | (go_at_call 92; (refine (HCAT.out _ _).mono ?_); rintro e3 w3 ⟨v3, rfl, ho3, hb3⟩; have hS3 := grownBy_below hb3 (Value.slice pd D.length capd).ownBlock)
          | (go_at_call 91; (refine (HNORM.out _ _ ho3).mono ?_); rintro e4 w4 ⟨v4, rfl, ho4, hb4⟩; have hS4 := hS3.trans (grownBy_below hb4 (Value.slice pd D.length capd).ownBlock))
          | (go_at_call 90; (refine (HREP.out _ _ _ hb3 hb4 ho4).mono ?_); rintro e5 w5 ⟨v5, rfl, ho5, ht5, hS5⟩)
          | fail "no arm")
      all_goals
        have Ho5 := Lib.hid ho5
        have Ht5 := Lib.hid ht5
        clear ho5 ht5 hS5 ho4 hb4 hS4 ho3 hb3 hS3 hx0 hx1 x0 x1 hsl
        go_wp2
        go_roundw
        case rel => exact ⟨k + 1, by omega, by go_num, by rw [HNX.out]; exact Ho5.out, Htu.out.trans Ht5.out⟩
        case measure => simp [intOf]; omega
    · obtain rfl : k = K.length := by omega
      rw [List.take_length] at Hown
      go_wp2
      go_ret
      exact ⟨_, rfl, Hown.out, Htu.out⟩

end Go.Proofs.YtjncehkldhkobaaGreat
