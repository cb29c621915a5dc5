/-
  Walks: keys taken out of a normal list of spans.
-/
import Derived.Test.YthncnijkgkeohaaGreatHKN
import Derived.Test.YthncnijkgkeohaaGreatFA
import Derived.Deep.RegionLawGrows
namespace Go.Proofs.YthncnijkgkeohaaGreat
open Go.RowKit Go.Sort
set_option linter.unusedVariables false

theorem sizeD : (sizeOf (Tryz.prog.elem 90)) = sizeOf 29 := by
  rw [show Tryz.prog.elem 90 = 29 by kernel_rfl]
theorem elemD : Tryz.prog.underlying 90 = some (.slice (Tryz.prog.elem 90)) := by
  rw [show Tryz.prog.elem 90 = 29 by kernel_rfl]; exact Tryz.underlying90
theorem slice_lhD (a : Option Addr) (n cap lo hi : Nat) (h1 : lo ≤ hi) (h2 : hi ≤ cap) (w : World) : (Instr.slice 90 (.slice a n cap) (some (.int .i64 lo)) (some (.int .i64 hi)) none).run Tryz.prog w = .ok (sliced a lo hi cap 2) w := by
  rw [run_slice_lh w 90 a n cap elemD .i64 .i64 lo hi (by omega) (by omega) (by omega), sizeD, Tryz.sizeOf29]; rfl
theorem spans_sliced {w : World} {a : Option Addr} {n cap : Nat} {l : List Sp} (h : IsSpans w (.slice a n cap) l) (lo hi : Nat) (h1 : lo ≤ hi) (h2 : hi ≤ l.length) :
    IsSpans w (sliced a lo hi cap 2) ((l.take hi).drop lo) := by
  obtain ⟨a', cap', e, hlc, hcm, hc⟩ := h
  cases e
  have hll : ((l.take hi).drop lo).length = hi - lo := by rw [List.length_drop, List.length_take]; omega
  refine ⟨_, cap - lo, by rw [hll]; rfl, by omega, by omega, fun hne => ?_⟩
  have hlt : lo < hi := by
    rcases Nat.lt_or_ge lo hi with h | h
    · exact h
    · exfalso; apply hne; apply List.length_eq_zero_iff.1; omega
  obtain ⟨b, off, rfl, hb, hcell⟩ := hc (by rintro rfl; simp at h2; omega)
  have hadd : (⟨b, off, none⟩ : Addr).add (lo * 2) = ⟨b, off + lo * 2, none⟩ := by unfold Addr.add; split <;> simp_all
  refine ⟨b, off + lo * 2, by rw [if_neg (by omega)]; simp [hadd], hb, fun i hi' => ?_⟩
  have hc3 := hcell (lo + i) (by rw [hll] at hi'; omega)
  have e3 : off + lo * 2 + i * 2 = off + (lo + i) * 2 := by omega
  rw [e3]
  simpa using hc3
theorem keep_d {w wx : World} {row : Option Nat} (h : w.grownBy wx row) : w.grownBy wx.drew row := h.trans (grownBy_below (below_drewN wx 1) _)
theorem keep_a {w wx : World} {row : Option Nat} (h : w.grownBy wx row) (o : Obj) : w.grownBy (wx.alloc o) row := h.trans (World.grownBy_alloc _ _ _)
theorem turn_below {wr w4 w5 : World} {vd v5 : Value} (h2 : Below wr.heap.size wr w4) (ht : Turn vd v5 w4 w5) : Turn vd v5 wr w5 :=
  ⟨(grownBy_below h2 _).trans ht.1, fun j hj => (ht.2 j hj).imp (fun h => Nat.le_trans h2.size h) id⟩
def subS (d : List Sp) (s : Sp) : List Sp := minusS d [s]

set_option maxRecDepth 100000 in
set_option maxHeartbeats 8000000 in
theorem kwithout_w (base : Nat) (v : Value) (D : List Sp) (s : Sp) (w : World) (hv : w.ownsRow base 29 2 v D.length (D.flatMap encS)) (hn : Nrm D) (hb : base ≤ w.heap.size) (hl : D.length ≤ 900) :
    Calls Tryz.prog 96 #[v, strS s] w fun e w' => ∃ v', e = .returned v' ∧ w'.ownsRow base 29 2 v' (subS D s).length ((subS D s).flatMap encS) ∧ Turn v v' w w' := by
  have mixed := mixedA
  have Hown := Lib.hid hv
  obtain ⟨pd, capd, rfl, hnd, hmd, hpd⟩ := own_form hv
  unfold maxLen at hmd
  clear hpd
  have HN := Lib.hid (fun wx (hx : Below w.heap.size w wx) => near_w _ D s wx (IsSpans.owned (owns_below Hown.out hx)) hn (by omega))
  have hab := fromS_le D s
  have hbl2 := toS_le D s
  have HADD := Lib.hid (near_sub hn s)
  have hmid : IsSpans w (sliced pd (fromS D s) (toS D s) capd 2) (midS D s) := spans_sliced (IsSpans.owned Hown.out) _ _ hab hbl2
  have hmlen : (midS D s).length ≤ D.length := by unfold midS; rw [List.length_drop, List.length_take]; omega
  have hsl := slice_lhD pd D.length capd (fromS D s) (toS D s) hab (by omega)
  obtain ⟨pm, nm, cm, hvm⟩ : ∃ pm nm cm, sliced pd (fromS D s) (toS D s) capd 2 = .slice pm nm cm := ⟨_, _, _, rfl⟩
  rw [hvm] at hsl hmid
  have HMID := Lib.hid hmid
  clear hvm hmid hn hv
  have Hbase := Lib.hid hb
  clear hb
  generalize midS D s = mid at *
  generalize fromS D s = fa at *
  generalize toS D s = fb at *
  obtain ⟨lo, hi⟩ := s
  simp only [strS] at HN ⊢
  have hbw : Below w.heap.size w (w.alloc (.cells #[.string (Str lo), .string (Str hi)] 29)) := below_box _
  have HBW := Lib.hid hbw
  clear hbw
  go_enter Tryz.func96, Tryz.ntmps96
  go_wp2_with (go_at_call 124; refine (HN.out _ HBW.out).mono ?_; rintro e w2 ⟨rfl, hg2⟩; have HG2 := Lib.hid hg2; clear hg2)
  have hbel2 : Below w.heap.size w w2 := HBW.out.trans (HG2.out.below (by simp))
  have hmid2 := HMID.out.below hbel2
  have hown2 := owns_below Hown.out hbel2
  have hvl : ∀ j, (Value.slice pd D.length capd).ownBlock = some j → j < w.heap.size := fun j hj => (Hown.out.lt j hj).2
  have hsz2 := hbel2.size
  have hB2 : Blk w2 w.heap.size 29 #[.string (Str lo), .string (Str hi)] := HG2.out.blk (Blk.new _ _ _)
  have hne2 : some w.heap.size ≠ (Value.slice pd D.length capd).ownBlock := fun he => by have := hvl _ he.symm; omega
  have hx0 : ∀ wx, w2.grownBy wx (Value.slice pd D.length capd).ownBlock → wx.cell? ⟨w.heap.size, 0, none⟩ = some (.string (Str lo)) := fun wx hx => hx.cell (hB2.c0 0 _ rfl) hne2
  have hx1 : ∀ wx, w2.grownBy wx (Value.slice pd D.length capd).ownBlock → wx.cell? ⟨w.heap.size, 1, none⟩ = some (.string (Str hi)) := fun wx hx => hx.cell (hB2.c0 1 _ rfl) hne2
  have HS0 : Hid (w2.grownBy w2 (Value.slice pd D.length capd).ownBlock) := Lib.hid (grownBy_refl _ _)
  have hln : (minusS mid [(lo, hi)]).length ≤ 1000 := by have := minus_length mid [(lo, hi)]; simp at this; omega
  have HNORM : Hid (∀ T1, Calls Tryz.prog 123 #[.slice pm nm cm, .slice (some ⟨w2.heap.size, 0, none⟩) 1 1] (w2.drew.alloc (.cells #[.string (Str lo), .string (Str hi)] T1)) fun e w' => ∃ v, e = .returned v ∧ w'.ownsRow w2.heap.size 29 2 v (minusS mid [(lo, hi)]).length ((minusS mid [(lo, hi)]).flatMap encS) ∧ Below w2.heap.size w2 w') := Lib.hid (fun T1 => (minus_w (.slice pm nm cm) _ mid [(lo, hi)] _ ((hmid2.below (below_drewN w2 1)).below (below_box _)) (one_spans (w := w2.drew) (lo, hi) T1 rfl) (by omega) (by simp)).mono fun e w' ⟨v', a1, a2, a3⟩ => ⟨v', a1, owns_lower a2 (by simp), ((show Below w2.heap.size w2 w2.drew from below_drewN w2 1).trans ((Below.refl w2.heap.size w2.drew).alloc (Nat.le_refl w2.heap.size) _)).trans (a3.mono (by simp))⟩)
  have HREP : Hid (∀ v4 w4, Below w2.heap.size w2 w4 → w4.ownsRow w2.heap.size 29 2 v4 (minusS mid [(lo, hi)]).length ((minusS mid [(lo, hi)]).flatMap encS) → Calls Tryz.prog 125 #[.slice pd D.length capd, .int .i64 fa, .int .i64 fb, v4] w4 fun e w' => ∃ v', e = .returned v' ∧ w'.ownsRow base 29 2 v' (subS D (lo, hi)).length ((subS D (lo, hi)).flatMap encS) ∧ Turn (.slice pd D.length capd) v' w w' ∧ w2.grownBy w' (Value.slice pd D.length capd).ownBlock) := Lib.hid (fun v4 w4 h6 h5 => by
    have h7 := sreplace_w base w2.heap.size (.slice pd D.length capd) v4 D (minusS mid [(lo, hi)]) fa fb w4 (owns_below hown2 h6) h5 (fun j hj => Nat.lt_of_lt_of_le (hvl j hj) hsz2) (by have := h6.size; have := Hbase.out; omega) hab hbl2 (by omega) (by omega)
    have h8 : D.take fa ++ minusS mid [(lo, hi)] ++ D.drop fb = subS D (lo, hi) := HADD.out
    rw [h8] at h7
    exact h7.mono fun e w' ⟨v', a1, a2, a3⟩ => ⟨v', a1, a2, turn_below (hbel2.trans (h6.mono hsz2)) a3, (grownBy_below h6 _).trans a3.1⟩)
  clear hbel2 hmid2 hown2 hvl hB2 hne2 hln
  go_region_held3 (fun wx => w2.grownBy wx (Value.slice pd D.length capd).ownBlock)
    (repeat (first | with_reducible assumption | with_reducible exact HS0.out | with_reducible refine keep_d ?_ | with_reducible refine keep_a ?_ _))
    (first
      | (go_at_call 123; (refine (HNORM.out _).mono ?_); rintro e4 w4 ⟨v4, rfl, ho4, hb4⟩; have hS4 := grownBy_below hb4 (Value.slice pd D.length capd).ownBlock)
      | (go_at_call 125; (refine (HREP.out _ _ hb4 ho4).mono ?_); rintro e5 w5 ⟨v5, rfl, ho5, ht5, hS5⟩)
      | fail "no arm")
  all_goals
    have Ho5 := Lib.hid ho5
    have Ht5 := Lib.hid ht5
    clear ho5 ht5 hS5 ho4 hb4 hS4 hx0 hx1 hsl
    go_wp2
    go_ret
    exact ⟨_, rfl, Ho5.out, Ht5.out⟩

end Go.Proofs.YthncnijkgkeohaaGreat
