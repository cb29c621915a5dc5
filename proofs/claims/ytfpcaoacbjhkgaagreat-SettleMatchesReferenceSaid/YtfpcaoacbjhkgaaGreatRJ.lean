/-
  Walks: slices.Replace at rows of spans.
-/
import Derived.Test.YtfpcaoacbjhkgaaGreatRI
namespace Go.Proofs.YtfpcaoacbjhkgaaGreat
open Go.RowKit Go.Sort
set_option linter.unusedVariables false

theorem own_src {w : World} {base c : Nat} {p : Option Addr} {m : List Sp} (h : w.ownsRow base 38 2 (.slice p m.length c) m.length (m.flatMap encS)) (hp : 0 < (m.flatMap encS).length) : ∃ ad, p = some ad ∧ ∀ j x, (m.flatMap encS)[j]? = some x → w.cell? (ad.add j) = some x := by
  rw [flatS_len] at hp
  obtain ⟨p', c', e, _, _, hp'⟩ := own_form h
  injection e with e1 e2 e3
  subst e1
  obtain ⟨gu, rfl⟩ := hp' (by omega)
  exact ⟨_, rfl, h.cells (g := gu) rfl⟩
theorem own_other {w w' : World} {base g : Nat} {v : Value} {n : Nat} {xs : List Value} (h : w.ownsRow base 38 2 v n xs) (ho : ∀ b, b ≠ g → w'.heap[b]? = w.heap[b]?) (hsep : g < base) : w'.ownsRow base 38 2 v n xs := by
  refine ⟨h.1, ?_⟩
  rcases h.2 with h0 | ⟨g', cap, cur, h1, h2, h3, h4⟩
  · exact .inl h0
  · exact .inr ⟨g', cap, cur, h1, h2, (ho g' (by omega)).trans h3, h4⟩
theorem zeroSp : ∀ w : World, (zeroValue 38).run Tryz.prog w = .ok (.agg #[.string ⟨#[]⟩, .string ⟨#[]⟩]) w := by
  obtain ⟨i0, hi, hz0, hz1, hz2⟩ := info_parts infoS
  intro w
  simp [zeroValue, typeInfo, hi, hz0]
/-- 'clear' of a part of a row, as an equation for the walk. -/
theorem clear_run {w w0 : World} {B : Nat} (dp : Option Addr) (n c g off : Nat) (cur : List Value) (hg : w.heap[g]? = some (.cells cur.toArray 38 (0, 0))) (hpos : 0 < n → dp = some ⟨g, off, none⟩) (hfit : off + n * 2 ≤ cur.length) (hb : Below B w0 w) (hBg : B ≤ g) :
    ∃ w' cs, cs.length = n * 2 ∧ (∀ ty, (Builtin.clear_ #[108] ty #[.slice dp n c]).run Tryz.prog w = .ok (.tuple #[]) w') ∧ w'.heap[g]? = some (.cells (splice cur off cs).toArray 38 (0, 0)) ∧ Below B w0 w' ∧ (∀ b, b ≠ g → w'.heap[b]? = w.heap[b]?) := by
  rcases Nat.eq_zero_or_pos n with rfl | hn
  · refine ⟨w, [], by simp, fun ty => ?_, by simpa [splice] using hg, hb, fun _ _ => rfl⟩
    cases dp <;> simp [Builtin.clear_, run_underlying Tryz.underlying108]
  · obtain rfl := hpos hn
    have e2 : (Value.agg #[.string ⟨#[]⟩, .string ⟨#[]⟩]).cells.size = 2 := rfl
    have hcl := zeros_len (Value.agg #[.string ⟨#[]⟩, .string ⟨#[]⟩]).cells n
    rw [e2] at hcl
    have h1 := zeros_one (Value.agg #[.string ⟨#[]⟩, .string ⟨#[]⟩]).cells n (by intro v hv; simp [Value.cells] at hv; rcases hv with rfl | rfl <;> rfl)
    have hst := run_storeCells_at Tryz.prog g off 38 (Builtin.zeroCells (Value.agg #[.string ⟨#[]⟩, .string ⟨#[]⟩]).cells n).toList 0 cur.toArray w hg (by rw [hcl]; simpa using hfit) h1
    rw [Nat.add_zero] at hst
    generalize hzs : Builtin.zeroCells (Value.agg #[.string ⟨#[]⟩, .string ⟨#[]⟩]).cells n = zs at *
    refine ⟨_, zs.toList, hcl, fun ty => ?_, ?_, below_setRow hb hBg (cur.toArray.toList.take off ++ zs.toList ++ cur.toArray.toList.drop (off + zs.toList.length)).toArray, fun b hne => setRow_other w g b _ hne⟩
    · obtain ⟨m, rfl⟩ : ∃ m, n = m + 1 := ⟨n - 1, by omega⟩
      simp only [Builtin.clear_]
      simp at hst
      simp [run_underlying Tryz.underlying108, hzs, hst]
    · simpa [splice] using setRow_heap w g _ _ 38 _ hg
theorem splice_take {α : Type} {L cs : List α} {off : Nat} (h : off ≤ L.length) : (splice L off cs).take off = L.take off := by
  unfold splice
  rw [List.take_left' (by rw [List.length_take]; omega)]
set_option maxRecDepth 100000 in
set_option maxHeartbeats 8000000 in
theorem sreplace_w (base base2 : Nat) (v u : Value) (l m : List Sp) (i j : Nat) (w : World) (hv : w.ownsRow base 38 2 v l.length (l.flatMap encS)) (hu : w.ownsRow base2 38 2 u m.length (m.flatMap encS))
    (hsep : ∀ k, v.ownBlock = some k → k < base2) (hb : base ≤ w.heap.size) (hij : i ≤ j) (hj : j ≤ l.length) (hl : l.length ≤ 100000000) (hm : m.length ≤ 100000000) :
    Calls Tryz.prog 110 #[v, .int .i64 i, .int .i64 j, u] w fun e w' => ∃ v', e = .returned v' ∧ w'.ownsRow base 38 2 v' (l.take i ++ m ++ l.drop j).length ((l.take i ++ m ++ l.drop j).flatMap encS) ∧ Turn v v' w w' := by
  have mixed := mixedA
  have Hv := Lib.hid hv
  have Hu := Lib.hid hu
  by_cases hije : i = j
  · subst hije
    have HI0 := Lib.hid (sinsert_w base base2 v u l m i w hv hu hsep hb hj hl hm)
    obtain ⟨pu, capu, rfl, hcu, hmu, hpu⟩ := own_form hu
    rcases hv.2 with ⟨rfl, h0⟩ | ⟨g, cap, cur, rfl, hbg, hg, hn, hcm, hcs, ht⟩
    · obtain rfl : i = 0 := by omega
      obtain rfl : l = [] := List.eq_nil_of_length_eq_zero h0
      have HI : Hid (Calls Tryz.prog 123 #[.slice none 0 0, .int .i64 0, .slice pu m.length capu] w _) := HI0
      clear hv hu hsep hpu HI0 Hv Hu
      go_enter Tryz.func110, Tryz.ntmps110
      go_wp2_with (go_at_call 123; refine HI.out.mono ?_; rintro e w2 ⟨v2, rfl, ho, hbl⟩; have Ho := Lib.hid ho; have Hb := Lib.hid hbl; clear ho hbl)
      go_ret
      exact ⟨_, rfl, Ho.out, Hb.out⟩
    · unfold maxLen at hcm
      by_cases hci : cap = i
      · subst hci
        obtain rfl : l.length = cap := by omega
        have HI := HI0
        clear hv hu hsep hpu hg ht hcs HI0 Hv Hu hcm hn
        go_enter Tryz.func110, Tryz.ntmps110
        go_wp2_with (go_at_call 123; refine HI.out.mono ?_; rintro e w2 ⟨v2, rfl, ho, hbl⟩; have Ho := Lib.hid ho; have Hb := Lib.hid hbl; clear ho hbl)
        go_ret
        exact ⟨_, rfl, Ho.out, Hb.out⟩
      · have hi2 : i ≤ cap := by omega
        have HI := HI0
        clear hv hu hsep hpu hg ht hcs HI0 Hv Hu
        go_enter Tryz.func110, Tryz.ntmps110
        go_wp2_with (go_at_call 123; refine HI.out.mono ?_; rintro e w2 ⟨v2, rfl, ho, hbl⟩; have Ho := Lib.hid ho; have Hb := Lib.hid hbl; clear ho hbl)
        go_ret
        exact ⟨_, rfl, Ho.out, Hb.out⟩
  · obtain ⟨g, hvg⟩ : ∃ g, v.ownBlock = some g := by
      rcases hv.2 with ⟨rfl, h0⟩ | ⟨g, cap, cur, rfl, _⟩
      · omega
      · exact ⟨g, rfl⟩
    obtain ⟨pv, cap, rfl, hnc, hcm, hpv⟩ := own_form hv
    obtain ⟨g', rfl⟩ := hpv (by omega)
    obtain rfl : g' = g := by simpa [Value.ownBlock] using hvg
    have hgb := hsep g' rfl
    obtain ⟨cur, r1, r2, r3, r4, r5, r6, -⟩ := own_row hv
    obtain ⟨pu, capu, rfl, hcu, hmu, hpu⟩ := own_form hu
    unfold maxLen at hcm hmu
    have hije2 : ((i : Int) == (j : Int)) = false := by rw [beq_eq_false_iff_ne]; omega
    have hci : ¬ cap = i := by omega
    have hgw : g' < w.heap.size := by rw [Array.getElem?_eq_some_iff] at r1; exact r1.1
    have R1 := Lib.hid r1
    have hdl : ((l.drop j).flatMap encS).length = (l.length - j) * 2 := by rw [flatS_len, List.length_drop]
    have htl : ((l.take i).flatMap encS).length = i * 2 := by rw [flatS_len, List.length_take]; omega
    have hml : (m.flatMap encS).length = m.length * 2 := flatS_len m
    have hre : (l.take i ++ m ++ l.drop j).flatMap encS = (l.take i).flatMap encS ++ m.flatMap encS ++ (l.drop j).flatMap encS := by rw [List.flatMap_append, List.flatMap_append]
    have hrl : (l.take i ++ m ++ l.drop j).length = i + m.length + (l.length - j) := by simp; omega
    have hti : cur.take (i * 2) = (l.take i).flatMap encS := by rw [flatS_take, ← r3, List.take_take, Nat.min_eq_left (by omega)]
    have hot := owns_take hv i (by omega)
    have HPU := Lib.hid hpu
    clear hv hu hpu hpv hvg r1 hsep
    by_cases hjn : j = l.length
    · subst hjn
      have hjn2 : ((l.length : Int) == (l.length : Int)) = true := by simp
      have HT := Lib.hid hot
      by_cases hsm : i + m.length < l.length
      · go_enter Tryz.func110, Tryz.ntmps110
        go_wp2_with (at_builtin; refine append_dead rfl _ _ rfl base _ (l.take i) i rfl HT.out base2 _ m rfl Hu.out (by omega) hb ?_; intro v2 w2 ho hbl hval; obtain rfl := hval g' cap rfl (by omega); have Ho := Lib.hid ho; have Hb := Lib.hid hbl; clear ho hbl hval)
        obtain ⟨cur2, k1, k2, k3, k4, k5, k6, k7⟩ := own_row Ho.out
        have hc2 : ¬ cap = i + m.length := by omega
        obtain ⟨w3, cs, hcs, hc3, h3, hb3, ho3⟩ := clear_run (w := w2) (w0 := w2) (B := base) (some ⟨g', (i + m.length) * 2, none⟩) (l.length - (i + m.length)) (cap - (i + m.length)) g' ((i + m.length) * 2) cur2 k1 (fun _ => rfl) (by rw [k2]; omega) (Below.refl _ _) r4
        rw [hc3]
        have H3 := Lib.hid h3
        have HB3 := Lib.hid (Hb.out.trans (turn_own hb3 ho3 _ _ (i + m.length) cap))
        have K3 := Lib.hid k3
        clear h3 hb3 ho3 hc3 k3 k1
        have K7 := Lib.hid k7
        clear k7
        go_wp2_with fail
        go_ret
        have k7 := K7.out
        refine ⟨_, rfl, ?_, HB3.out⟩
        have e0 : l.take i ++ m ++ l.drop l.length = l.take i ++ m := by simp
        rw [e0, k7.symm]
        refine row_own H3.out (by rw [length_splice _ _ _ (by rw [hcs, k2]; omega), k2]) ?_ r4 (by omega) r6 k7
        unfold splice
        rw [List.take_left' (by rw [List.length_take, k2]; omega)]
        exact K3.out
      · go_enter Tryz.func110, Tryz.ntmps110
        go_wp2_with (at_builtin; refine append_dead rfl _ _ rfl base _ (l.take i) i rfl HT.out base2 _ m rfl Hu.out (by omega) hb ?_; intro v2 w2 ho hbl hval; obtain ⟨p2, c2, rfl, -, -, -⟩ := own_form ho; have Ho := Lib.hid ho; have Hb := Lib.hid hbl; clear ho hbl hval)
        go_wp2
        go_ret
        have e0 : l.take i ++ m ++ l.drop l.length = l.take i ++ m := by simp
        exact ⟨_, rfl, by rw [e0]; exact own_same Ho.out rfl (by simp; omega), Hb.out⟩
    · have hjl : j < l.length := by omega
      have hjn2 : ((j : Int) == (l.length : Int)) = false := by rw [beq_eq_false_iff_ne]; omega
      have hcj : ¬ cap = j := by omega
      by_cases hgrow : cap < i + m.length + (l.length - j)
      · go_enter Tryz.func110, Tryz.ntmps110
        go_upto_region 9 with fail
        go_region
        go_wp2_with (at_builtin; refine append_zeros rfl (.tmp 63) (.tmp 66) rfl base g' i cap (l.take i) rfl hot.drew (m.length + (l.length - j)) (by simp [Act.eval]; omega) (by omega) (by omega) (by omega) ?_; intro w2 cap' cur2 k1 k2 k3 k4 k5 k6 k7; have K4 := Lib.hid k4; have K6 := Lib.hid k6; have hc' : ¬ cap' = i := (by omega); clear k4 k6)
        obtain ⟨w3, hc3, h3, hb3, ho3, hs3⟩ := copy_run (w := w2) 108 29 Tryz.underlying108 (some ⟨w.heap.size, i * 2, none⟩) pu (m.length + (l.length - j)) (cap' - i) m.length capu m.length w.heap.size (i * 2) cur2 k5.out (m.flatMap encS) (by simp only [Nat.min_def]; split <;> omega) hml (fun hp => ⟨rfl, own_src (owns_below Hu.out.drew K6.out) hp⟩) (by rw [hml, k3]; omega) (flatS_one m) K6.out (Nat.le_refl _)
        have HB3 := Lib.hid hb3
        have H3 := Lib.hid h3
        clear hb3 h3 ho3
        rw [hc3]
        have hsz : ¬ cap' = i + m.length := by omega
        go_upto_region 13 with fail
        have hb3 : Below w.heap.size w w3 := (show Below w.heap.size w w.drew from below_drewN w 1).trans HB3.out
        have hd3 : ∀ wx : World, (∀ b : Nat, wx.heap[b]? = w3.heap[b]?) → Below w.heap.size w wx → ∃ w4, (∀ ty, (Builtin.copy_ #[108, 108] ty #[.slice (some ⟨w.heap.size, (i + m.length) * 2, none⟩) (i + (m.length + (l.length - j)) - (i + m.length)) (cap' - (i + m.length)), .slice (some ⟨g', j * 2, none⟩) (l.length - j) (cap - j)]).run Tryz.prog wx = .ok (goInt (l.length - j : Nat)) w4) ∧ w4.heap[w.heap.size]? = some (.cells (splice (splice cur2 (i * 2) (m.flatMap encS)) ((i + m.length) * 2) ((l.drop j).flatMap encS)).toArray 38 (0, 0)) ∧ Below w.heap.size w w4 := by
          intro wx hwx hbx
          have hlen3 : (splice cur2 (i * 2) (m.flatMap encS)).length = cap' * 2 := by rw [length_splice _ _ _ (by rw [hml, k3]; omega), k3]
          obtain ⟨w4, hc4, h4, hb4, ho4, hs4⟩ := copy_run (w := wx) 108 108 Tryz.underlying108 (some ⟨w.heap.size, (i + m.length) * 2, none⟩) (some ⟨g', j * 2, none⟩) (i + (m.length + (l.length - j)) - (i + m.length)) (cap' - (i + m.length)) (l.length - j) (cap - j) (l.length - j) w.heap.size ((i + m.length) * 2) _ (by rw [hwx]; exact H3.out) ((l.drop j).flatMap encS) (by simp only [Nat.min_def]; split <;> omega) hdl (fun _ => ⟨rfl, ⟨g', j * 2, none⟩, rfl, fun j' x hj' => row_cells (row_at R1.out hbx (by omega)) (j * 2) j' x (drop_cells r3 j j' x hj')⟩) (by rw [hdl, hlen3]; omega) (flatS_one _) hbx (Nat.le_refl _)
          exact ⟨w4, hc4, h4, hb4⟩
        obtain ⟨w4, hc4, h4, hb4⟩ := hd3 w3.drew (fun _ => rfl) (hb3.trans (below_drewN w3 1))
        have H4 := Lib.hid h4
        have HB4 := Lib.hid hb4
        have K3 := Lib.hid k3
        have K2 := Lib.hid k2
        clear h4 hb4 hd3 hb3 k3 k2
        go_region
        go_wp2
        go_ret
        refine ⟨_, rfl, ?_, turn_new HB4.out _ _ _⟩
        have k3 := K3.out
        have k2 := K2.out
        have e := splice_fwd cur2 ((l.take i).flatMap encS) (m.flatMap encS) ((l.drop j).flatMap encS) (by rw [htl]; exact K4.out) (by rw [htl, hml, hdl, k3]; omega)
        rw [htl, hml, hdl, show i * 2 + m.length * 2 + (l.length - j) * 2 = (i + (m.length + (l.length - j))) * 2 by omega, show i * 2 + m.length * 2 = (i + m.length) * 2 by omega, ← hre] at e
        have hrl2 : (l.take i ++ m ++ l.drop j).length = i + (m.length + (l.length - j)) := by omega
        rw [hrl2]
        exact row_own H4.out (by rw [length_splice _ _ _ (by rw [length_splice _ _ _ (by rw [hml, k3]; omega), hdl, k3]; omega), length_splice _ _ _ (by rw [hml, k3]; omega), k3]) e hb (by omega) (by assumption) hrl2.symm
      · have hgr : i + m.length + (l.length - j) ≤ cap := by omega
        by_cases hle : i + m.length ≤ j
        · have hlen3 : (splice cur (i * 2) (m.flatMap encS)).length = cap * 2 := by rw [length_splice _ _ _ (by rw [hml, r2]; omega), r2]
          obtain ⟨w3, hc3, h3, hb3, ho3, hs3⟩ := copy_run (w := w.drew) (w0 := w) 108 29 Tryz.underlying108 (some ⟨g', i * 2, none⟩) pu (i + m.length + (l.length - j) - i) (cap - i) m.length capu m.length g' (i * 2) cur R1.out (m.flatMap encS) (by simp only [Nat.min_def]; split <;> omega) hml (fun hp => ⟨rfl, own_src Hu.out.drew hp⟩) (by rw [hml, r2]; omega) (flatS_one m) (show Below base w w.drew from below_drewN w 1) r4
          obtain ⟨w4, hc4, h4, hb4, ho4, hs4⟩ := copy_run (w := w3.drew) (w0 := w) 108 108 Tryz.underlying108 (some ⟨g', (i + m.length) * 2, none⟩) (some ⟨g', j * 2, none⟩) (l.length - j) (cap - (i + m.length)) (l.length - j) (cap - j) (l.length - j) g' ((i + m.length) * 2) _ (show w3.drew.heap[g']? = _ from h3) ((l.drop j).flatMap encS) (by simp only [Nat.min_def]; split <;> omega) hdl (fun _ => ⟨rfl, ⟨g', j * 2, none⟩, rfl, fun j' x hj' => row_cells (w := w3.drew) h3 (j * 2) j' x (by
            have := drop_cells r3 j j' x hj'
            rw [List.getElem?_drop] at *
            rw [get_splice _ _ _ _ (by rw [hml, r2]; omega), if_neg (by omega), if_neg (by rw [hml]; omega)]
            exact this)⟩) (by rw [hdl, hlen3]; omega) (flatS_one _) (hb3.trans (below_drewN w3 1)) r4
          have hlen4 : (splice (splice cur (i * 2) (m.flatMap encS)) ((i + m.length) * 2) ((l.drop j).flatMap encS)).length = cap * 2 := by rw [length_splice _ _ _ (by rw [hdl, hlen3]; omega), hlen3]
          have e := splice_fwd cur ((l.take i).flatMap encS) (m.flatMap encS) ((l.drop j).flatMap encS) (by rw [htl]; exact hti) (by rw [htl, hml, hdl, r2]; omega)
          rw [htl, hml, hdl, show i * 2 + m.length * 2 + (l.length - j) * 2 = (i + m.length + (l.length - j)) * 2 by omega, show i * 2 + m.length * 2 = (i + m.length) * 2 by omega, ← hre] at e
          have E := Lib.hid e
          have L4 := Lib.hid hlen4
          have R2 := Lib.hid r2
          have HRL := Lib.hid hrl
          have hci3 : ¬ cap = i + m.length := by omega
          by_cases hct : i + m.length + (l.length - j) = cap
          · subst hct
            simp only [Nat.add_sub_cancel_left] at hc4
            obtain ⟨w5, cs, hcs, hc5, h5, hb5, ho5⟩ := clear_run (w := w4) (some ⟨g', 0, none⟩) 0 0 g' ((i + m.length + (l.length - j)) * 2) _ h4 (fun h => absurd h (by omega)) (by rw [hlen4]; omega) hb4 r4
            have hz : l.length - (i + m.length + (l.length - j)) = 0 := by omega
            have H5 := Lib.hid h5
            have HB5 := Lib.hid hb5
            have HCS := Lib.hid hcs
            have HO := Lib.hid (fun b (hne : b ≠ g') => (ho5 b hne).trans ((ho4 b hne).trans (ho3 b hne)))
            clear ho5 e hlen3 hlen4 h3 hb3 ho3 hs3 h4 hb4 ho4 hs4 h5 hb5 hcs hrl hre hdl htl hml hti r2 r3 hot
            go_enter Tryz.func110, Tryz.ntmps110
            go_upto_region 9 with fail
            go_region
            go_upto_region 18 with fail
            go_region
            go_wp2
            go_ret
            refine ⟨_, rfl, ?_, turn_own HB5.out HO.out _ _ _ _⟩
            rw [HRL.out]
            refine row_own H5.out (by rw [length_splice _ _ _ (by rw [HCS.out, L4.out]; omega), L4.out]) ?_ r4 (by omega) r6 HRL.out.symm
            rw [← E.out]
            exact splice_take (by rw [L4.out]; omega)
          · have hct2 : ¬ cap = i + m.length + (l.length - j) := fun h => hct h.symm
            obtain ⟨w5, cs, hcs, hc5, h5, hb5, ho5⟩ := clear_run (w := w4) (some ⟨g', (i + m.length + (l.length - j)) * 2, none⟩) (l.length - (i + m.length + (l.length - j))) (cap - (i + m.length + (l.length - j))) g' ((i + m.length + (l.length - j)) * 2) _ h4 (fun _ => rfl) (by rw [hlen4]; omega) hb4 r4
            have H5 := Lib.hid h5
            have HB5 := Lib.hid hb5
            have HCS := Lib.hid hcs
            have HO := Lib.hid (fun b (hne : b ≠ g') => (ho5 b hne).trans ((ho4 b hne).trans (ho3 b hne)))
            clear ho5 e hlen3 hlen4 h3 hb3 ho3 hs3 h4 hb4 ho4 hs4 h5 hb5 hcs hrl hre hdl htl hml hti r2 r3 hot
            go_enter Tryz.func110, Tryz.ntmps110
            go_upto_region 9 with fail
            go_region
            go_upto_region 18 with fail
            go_region
            go_wp2
            go_ret
            refine ⟨_, rfl, ?_, turn_own HB5.out HO.out _ _ _ _⟩
            rw [HRL.out]
            refine row_own H5.out (by rw [length_splice _ _ _ (by rw [HCS.out, L4.out]; omega), L4.out]) ?_ r4 (by omega) r6 HRL.out.symm
            rw [← E.out]
            exact splice_take (by rw [L4.out]; omega)
        · obtain ⟨gu, rfl⟩ := HPU.out (by omega)
          obtain ⟨curu, q1, q2, q3, q4, q5, q6, -⟩ := own_row Hu.out
          have hgu : g' < gu := Nat.lt_of_lt_of_le hgb q4
          have hov := fun o lb cb => overlaps_no' (w := w.drew) (g := g') (gu := gu) (by omega) R1.out q1 (by rw [q2]; omega) o m.length capu lb cb
          obtain ⟨w4, hc4, h4, hb4, ho4, hs4⟩ := copy_run (w := w.drew.drew) (w0 := w) 108 108 Tryz.underlying108 (some ⟨g', (i + m.length) * 2, none⟩) (some ⟨g', j * 2, none⟩) (l.length - j) (cap - (i + m.length)) (l.length - j) (cap - j) (l.length - j) g' ((i + m.length) * 2) cur R1.out ((l.drop j).flatMap encS) (by simp only [Nat.min_def]; split <;> omega) hdl (fun _ => ⟨rfl, ⟨g', j * 2, none⟩, rfl, fun j' x hj' => row_cells (w := w) R1.out (j * 2) j' x (drop_cells r3 j j' x hj')⟩) (by rw [hdl, r2]; omega) (flatS_one _) (show Below base w w.drew.drew from below_drewN w 2) r4
          have hsrc : ∀ j x, (m.flatMap encS)[j]? = some x → w4.cell? ((⟨gu, 0, none⟩ : Addr).add j) = some x := fun j x hj => by
            have := Hu.out.cells (g := gu) rfl j x hj
            rw [← this]
            exact World.cell?_of_block (by have := ho4 gu (by omega); unfold Addr.add; split <;> exact this)
          obtain ⟨w5, hc5, h5, hb5, ho5, -⟩ := copy_run (w := w4) 108 29 Tryz.underlying108 (some ⟨g', i * 2, none⟩) (some ⟨gu, 0, none⟩) (i + m.length + (l.length - j) - i) (cap - i) m.length capu m.length g' (i * 2) _ h4 (m.flatMap encS) (by simp only [Nat.min_def]; split <;> omega) hml (fun _ => ⟨rfl, ⟨gu, 0, none⟩, rfl, hsrc⟩) (by rw [hml, length_splice _ _ _ (by rw [hdl, r2]; omega), r2]; omega) (flatS_one m) hb4 r4
          have hlen5 : (splice (splice cur ((i + m.length) * 2) ((l.drop j).flatMap encS)) (i * 2) (m.flatMap encS)).length = cap * 2 := by rw [length_splice _ _ _ (by rw [length_splice _ _ _ (by rw [hdl, r2]; omega), hml, r2]; omega), length_splice _ _ _ (by rw [hdl, r2]; omega), r2]
          have e := splice_back cur ((l.take i).flatMap encS) (m.flatMap encS) ((l.drop j).flatMap encS) (by rw [htl]; exact hti) (by rw [htl, hml, hdl, r2]; omega)
          rw [htl, hml, hdl, show i * 2 + m.length * 2 + (l.length - j) * 2 = (i + m.length + (l.length - j)) * 2 by omega, show i * 2 + m.length * 2 = (i + m.length) * 2 by omega, ← hre] at e
          have E := Lib.hid e
          have L5 := Lib.hid hlen5
          have HRL := Lib.hid hrl
          have H5 := Lib.hid h5
          have HB5 := Lib.hid hb5
          have hci3 : ¬ cap = i + m.length := by omega
          have HO := Lib.hid (fun b (hne : b ≠ g') => (ho5 b hne).trans (ho4 b hne))
          clear ho5 e hlen5 h4 hb4 ho4 hs4 hsrc h5 hb5 hrl hre hdl htl hml hti r2 r3 hot q1 q2 q3
          go_enter Tryz.func110, Tryz.ntmps110
          go_upto_region 9 with fail
          go_region
          go_upto_region 22 with (simp only [hov])
          go_region
          go_wp2
          go_ret
          refine ⟨_, rfl, ?_, turn_own HB5.out HO.out _ _ _ _⟩
          rw [HRL.out]
          exact row_own H5.out L5.out E.out r4 hgr r6 HRL.out.symm

end Go.Proofs.YtfpcaoacbjhkgaaGreat
