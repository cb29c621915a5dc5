/-
  Walk of the law NodeChecks.
-/
import Derived.Test.YtmbfghbhajmpiaaGreatYBA
namespace Go.Proofs.YtmbfghbhajmpiaaGreat
open Go.RowKit Go.Deep Go.Sort
set_option linter.unusedVariables false

theorem own_emptyB (W : World) (B : Nat) (hB : B ≤ W.heap.size) : OwnB (W.alloc (.cells #[] 5)) B (.slice (some ⟨W.heap.size, 0, none⟩) 0 0) [] :=
  ⟨rfl, .inr ⟨W.heap.size, 0, #[], rfl, hB, Blk.new _ _ _, Nat.le_refl _, by unfold maxLen; omega, rfl, rfl⟩⟩
theorem ownB_form {w : World} {B : Nat} {v : Value} {l : Bs} (h : OwnB w B v l) : ∃ p cap, v = .slice p l.length cap ∧ l.length ≤ cap ∧ cap ≤ maxLen ∧ (0 < l.length → ∃ g, p = some ⟨g, 0, none⟩) := by
  rcases h.2 with ⟨rfl, h0⟩ | ⟨g, cap, cur, rfl, _, _, hn, hm, _⟩
  · rw [h0]; exact ⟨none, 0, rfl, Nat.le_refl _, by unfold maxLen; omega, fun h => absurd h (by omega)⟩
  · exact ⟨_, cap, rfl, hn, hm, fun _ => ⟨g, rfl⟩⟩
theorem ownB_set {w : World} {B g cap : Nat} {l : Bs} (h : OwnB w B (.slice (some ⟨g, 0, none⟩) l.length cap) l) (i : Nat) (c : UInt8) (hB : B ≤ w.heap.size) :
    OwnB (w.setCell ⟨g, i, none⟩ (.int .u8 c.toNat)) B (.slice (some ⟨g, 0, none⟩) l.length cap) (l.set i c) ∧ Below B w (w.setCell ⟨g, i, none⟩ (.int .u8 c.toNat)) := by
  have hg := World.ownsRow.lt h g rfl
  obtain ⟨h1, g1⟩ := World.ownsRow.stored h i (.int .u8 c.toNat)
  refine ⟨?_, Below.grown (Below.refl _ _) g1 hB (fun q hq => by cases hq; exact hg.1)⟩
  unfold OwnB
  rw [List.length_set, List.map_set]
  exact h1
theorem ownB_cell {w : World} {B g cap : Nat} {l : Bs} (h : OwnB w B (.slice (some ⟨g, 0, none⟩) l.length cap) l) (i : Nat) (hi : i < l.length) : w.cell? ⟨g, i, none⟩ = some (.int .u8 (l[i].toNat)) := by
  have hz := h.1
  refine (World.ownsRow.cellAt h i (by rw [Nat.mul_one] at hz; omega)).trans ?_
  simp [hi]
theorem ownB_free {w : World} {B g cap : Nat} {l : Bs} (h : OwnB w B (.slice (some ⟨g, 0, none⟩) l.length cap) l) (i : Nat) : w.frozen? ⟨g, i, none⟩ = false := World.ownsRow.frozenAt h i
set_option maxRecDepth 100000 in
set_option maxHeartbeats 4000000 in
theorem nodeChecks_walk (w : World) (v0 : Value) (l : Bs) (h0 : IsBytes w v0 l) (v1 : Value) (x : Nat × Nat) (h1 : IsU16x2 w v1 x) :
    Calls Tryz.prog 8 #[v0, v1] w fun e w' => e = .returned (.bool true) ∧ Below w.heap.size w w' := by
  obtain ⟨x0, x1⟩ := x
  obtain ⟨rfl, hx0, hx1⟩ := h1
  show Calls _ _ #[v0, .agg #[.int .u16 x0, .int .u16 x1]] _ _
  change x0 < 65536 at hx0
  change x1 < 65536 at hx1
  have HM := Lib.hid h0
  obtain ⟨p, c, rfl, hml, hmm, -⟩ := h0
  unfold maxLen at hmm
  by_cases h300 : l.length ≤ 300
  · by_cases hz : l.length = 0
    · have hz1 : ((l.length : Nat) : Int) = 0 := by omega
      go_enter Tryz.func8, Tryz.ntmps8
      go_wp2_with fail
      refine (nsan_w _).mono ?_
      rintro e1 w1 ⟨rfl, hb1⟩
      go_wp2
      go_ret
      exact ⟨rfl, (below_box _).trans (hb1.mono (by simp))⟩
    · have hz1 : 0 < ((l.length : Nat) : Int) := by omega
      have h300z : (l.length : Int) ≤ 300 := by omega
      have hd300 : decide (300 < (l.length : Int)) = false := by simp; omega
      have hd0 : (((l.length : Nat) : Int) == 0) = false := by rw [beq_eq_false_iff_ne]; omega
      obtain ⟨i, hi, hmi⟩ : ∃ i : Nat, i < l.length ∧ (x0 : Int) % (l.length : Int) = (i : Int) := ⟨x0 % l.length, Nat.mod_lt _ (by omega), by rw [Int.natCast_emod]⟩
      have hiz : (i : Int) < (l.length : Int) := by omega
      obtain ⟨d, hcd⟩ : ∃ d : UInt8, (x1 : Int) % 256 = ((d.toNat : Nat) : Int) := ⟨UInt8.ofNat x1, by rw [UInt8.toNat_ofNat']; omega⟩
      go_enter Tryz.func8, Tryz.ntmps8
      go_wp2_with fail
      refine (nsan_w _).mono ?_
      rintro e1 w1 ⟨rfl, hb1⟩
      have H1 := Lib.hid ((below_box (w := w) (.cells #[.int .u16 (x0 : Int), .int .u16 (x1 : Int)] 57)).trans (hb1.mono (by simp)))
      have K1 : Hid (Blk w1 w.heap.size 57 #[.int .u16 (x0 : Int), .int .u16 (x1 : Int)]) := Lib.hid ((Blk.new _ _ _).below hb1 (by simp))
      clear hb1
      have hs1 : w1.heap.size ≤ (w1.alloc (.cells #[] 5)).heap.size := by simp
      go_wp2_with (at_builtin; refine append_bytesG rfl _ _ rfl w1.heap.size _ [] rfl (own_emptyB w1 w1.heap.size (Nat.le_refl _)) _ l rfl (HM.out.below (H1.out.trans ((below_box _).mono (Nat.le_of_lt K1.out.lt)))) (by simp; omega) hs1 ?_; intro v2 w2 hown2 hb2; rw [List.nil_append] at hown2; obtain ⟨q, c2, rfl, hq1, hq2, hq3⟩ := ownB_form hown2; obtain ⟨g, rfl⟩ := hq3 (by omega); clear hq3; unfold maxLen at hq2; have O2 := Lib.hid hown2; have H2 := Lib.hid (H1.out.trans (((below_box _).trans hb2).mono (Nat.le_of_lt K1.out.lt))); have K2 := Lib.hid ((K1.out.alloc (.cells #[] 5)).below hb2 K1.out.lt); have hs12 : w1.heap.size ≤ w2.heap.size := Nat.le_of_lt (Nat.lt_of_lt_of_le (by simp) hb2.size); have hs01 := Nat.le_of_lt K1.out.lt; clear hown2 hb2 H1 K1 hs1; have z0 := K2.out.c0 0 _ rfl; have z1 := K2.out.c0 1 _ rfl; have gi := ownB_cell O2.out i hi; have gf := ownB_free O2.out i)
      clear gi gf z0 z1
      obtain ⟨o3, b3⟩ := ownB_set O2.out i d hs12
      have O3 := Lib.hid o3
      have H3 := Lib.hid (H2.out.trans (b3.mono hs01))
      clear o3 b3 O2 H2 K2 hs12 hs01
      generalize (w2.setCell ⟨g, i, none⟩ (.int .u8 d.toNat)) = w3 at *
      have HM3 := Lib.hid (HM.out.below H3.out)
      refine (check_w _ l _ HM3.out).mono ?_
      rintro e3 w4 ⟨rfl, rfl⟩
      obtain ⟨k, hk1, hkl⟩ : ∃ k, k + 1 = l.length ∧ k < l.length := ⟨l.length - 1, by omega, by omega⟩
      have hk2 : IntKind.i64.wrap ((l.length : Int) - 1) = (k : Int) := by rw [IntKind.wrap_i64]; omega
      have hk6 : wrap64 ((l.length : Int) - 1) = (k : Int) := by unfold wrap64; omega
      have hk3 : (0 : Int) ≤ (k : Int) := by omega
      have hk4 : (k : Int) < (l.length : Int) := by omega
      have hk5 : (k : Int) ≤ (l.length : Int) := by omega
      have hlast : checkN l = mixK (checkN (l.take k)) (l[k]'hkl) := by rw [checkN_last l (by omega)]; congr 1 <;> simp [← hk1]
      obtain ⟨p1, n1, c1, hV1⟩ : ∃ p1 n1 c1, Value.slice p1 n1 c1 = sliced p 0 k c 1 := ⟨_, _, _, rfl⟩
      have hs := fun wx => bslice_h p l.length c k (by omega) (by unfold maxLen; omega) wx
      have hq := HM3.out.sliced 0 k (Nat.zero_le _) (by omega)
      rw [List.drop_zero, ← hV1] at hq
      rw [← hV1] at hs
      have HQ := Lib.hid hq
      clear hV1 hq
      obtain ⟨bb, off, cap', he, hbl, hlz, y0⟩ := at_byte HM3.out k hkl
      injection he with he1 he2 he3
      subst he1 he3
      clear he2
      have hx := mixW (checkN (l.take k)) (l[k]'hkl) (checkN_lt _)
      have hv := convW (l[k]'hkl)
      have HL := Lib.hid hlast
      have HS := Lib.hid (checkN_set l i hi d)
      rw [← HL.out] at hx
      clear hlast
      have hy0 : ∀ wx, Below w3.heap.size w3 wx → wx.cell? ⟨bb, off + k, none⟩ = some (.int .u8 ((l[k]'hkl).toNat)) := fun wx hb => (hb.cell (p := ⟨bb, off + k, none⟩) hbl).trans y0
      have HC1 : Hid (∀ wx, Below w3.heap.size w3 wx → Calls Tryz.prog 35 #[.slice p1 n1 c1] wx fun e w' => e = .returned (.int .u64 ((checkN (l.take k) : Nat) : Int)) ∧ wx = w') := Lib.hid (fun wx hb => check_w _ _ _ (HQ.out.below hb))
      have HL0 : Hid (Below w3.heap.size w3 w3) := Lib.hid (Below.refl _ _)
      generalize l[k]'hkl = bz at *
      generalize checkN (l.take k) = h1 at *
      go_wp2_with fail
      go_upto_region 8 with fail
      go_cut [9] (fun s9 wx => s9 = .int .u64 ((checkN l : Nat) : Int) ∧ Hid (Below w3.heap.size w3 wx))
      case first =>
        go_region_held3 (fun wx => Below w3.heap.size w3 wx)
          (repeat (first | with_reducible assumption | with_reducible exact HL0.out | with_reducible refine Below.drew ?_))
          (first
            | (go_at_call 35; (refine (HC1.out _ (by repeat (first | with_reducible assumption | with_reducible exact HL0.out | with_reducible refine Below.drew ?_))).mono ?_); rintro e2 y2' ⟨rfl, rfl⟩)
            | fail "no arm")
        all_goals (go_wp2_with fail; go_meet)
        all_goals exact ⟨rfl, by first | with_reducible assumption | exact Lib.hid (by repeat (first | with_reducible assumption | with_reducible exact HL0.out | with_reducible refine Below.drew ?_))⟩
      case rest =>
        obtain ⟨rfl, HB9⟩ := hcut
        clear HC1 HL hx hv hs hy0 HQ y0 HL0 HM
        obtain ⟨bo, oo, co, heo, hbo, -, ho0⟩ := at_byte O3.out.is i (by rw [List.length_set]; exact hi)
        injection heo with he1 he2 he3
        injection he1 with he1
        injection he1 with he1 he4
        subst he1 he4
        clear he2 he3
        rw [List.getElem_set_self, Nat.zero_add] at ho0
        obtain ⟨bp, op, cp, hep, hbp, -, hp0⟩ := at_byte HM3.out i hi
        injection hep with he1 he2 he3
        injection he1 with he1
        injection he1 with he1 he4
        subst he1 he4
        clear he2 he3
        have hob : ∀ wx, Below w3.heap.size w3 wx → wx.cell? ⟨g, i, none⟩ = some (.int .u8 d.toNat) := fun wx hb => (hb.cell (p := ⟨g, i, none⟩) hbo).trans ho0
        have hpb : ∀ wx, Below w3.heap.size w3 wx → wx.cell? ⟨bb, off + i, none⟩ = some (.int .u8 l[i].toNat) := fun wx hb => (hb.cell (p := ⟨bb, off + i, none⟩) hbp).trans hp0
        have HC2 : Hid (∀ wx, Below w3.heap.size w3 wx → Calls Tryz.prog 35 #[.slice (some ⟨g, 0, none⟩) l.length c2] wx fun e w' => e = .returned (.int .u64 ((checkN (l.set i d) : Nat) : Int)) ∧ wx = w') := Lib.hid (fun wx hb => by
          have h := check_w _ _ _ (O3.out.is.below hb)
          exact h)
        obtain ⟨bq, hq1, hq2⟩ : ∃ bq : Bool, (((checkN (l.set i d) : Nat) : Int) == ((checkN l : Nat) : Int)) = bq ∧ (((d.toNat : Nat) : Int) == ((l[i].toNat : Nat) : Int)) = bq := by
          refine ⟨decide (d = l[i]), ?_, ?_⟩
          · rw [Bool.eq_iff_iff, beq_iff_eq, decide_eq_true_eq, Int.natCast_inj]
            exact HS.out
          · rw [Bool.eq_iff_iff, beq_iff_eq, decide_eq_true_eq, Int.natCast_inj]
            exact UInt8.toNat_inj
        have hq3 : (((checkN l : Nat) : Int) == ((checkN l : Nat) : Int)) = true := beq_self_eq_true _
        clear HS hp0 ho0
        generalize checkN (l.set i d) = k1 at *
        generalize checkN l = k2 at *
        generalize l[i] = y at *
        generalize y.toNat = yn at *
        generalize d.toNat = dn at *
        go_wp2_with fail
        cases bq with
        | true =>
          go_region_held3 (fun wx => Below w3.heap.size w3 wx)
            (repeat (first | with_reducible assumption | with_reducible exact HB9.out | with_reducible refine Below.drew ?_))
            (first
              | (go_at_call 35; (refine (HC2.out _ (by repeat (first | with_reducible assumption | with_reducible exact HB9.out | with_reducible refine Below.drew ?_))).mono ?_); rintro e2 y2' ⟨rfl, rfl⟩)
              | fail "no arm")
          all_goals go_wp2_with fail
          all_goals go_ret
          all_goals exact ⟨rfl, H3.out.trans (Below.mono (by repeat (first | with_reducible assumption | with_reducible exact HB9.out | with_reducible refine Below.drew ?_)) H3.out.size)⟩
        | false =>
          go_region_held3 (fun wx => Below w3.heap.size w3 wx)
            (repeat (first | with_reducible assumption | with_reducible exact HB9.out | with_reducible refine Below.drew ?_))
            (first
              | (go_at_call 35; (refine (HC2.out _ (by repeat (first | with_reducible assumption | with_reducible exact HB9.out | with_reducible refine Below.drew ?_))).mono ?_); rintro e2 y2' ⟨rfl, rfl⟩)
              | fail "no arm")
          all_goals go_wp2_with fail
          all_goals go_ret
          all_goals exact ⟨rfl, H3.out.trans (Below.mono (by repeat (first | with_reducible assumption | with_reducible exact HB9.out | with_reducible refine Below.drew ?_)) H3.out.size)⟩
  · have h300z : (300 : Int) < (l.length : Int) := by omega
    go_enter Tryz.func8, Tryz.ntmps8
    go_wp2_with fail
    refine (nsan_w _).mono ?_
    rintro e1 w1 ⟨rfl, hb1⟩
    go_wp2
    go_ret
    exact ⟨rfl, (below_box _).trans (hb1.mono (by simp))⟩

end Go.Proofs.YtmbfghbhajmpiaaGreat
