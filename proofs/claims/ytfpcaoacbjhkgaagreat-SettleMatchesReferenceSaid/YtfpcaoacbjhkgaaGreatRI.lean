/-
  Walks: slices.Insert at rows of spans.
-/
import Derived.Test.YtfpcaoacbjhkgaaGreatRH
namespace Go.Proofs.YtfpcaoacbjhkgaaGreat
open Go.RowKit Go.Sort
set_option linter.unusedVariables false

theorem take_drop_same (l : List Sp) (i : Nat) : l.take i ++ [] ++ l.drop i = l := by simp
theorem own_same {w : World} {base n k : Nat} {v : Value} {l l' : List Sp} (h : w.ownsRow base 38 2 v n (l.flatMap encS)) (e : l = l') (hn : n = k) : w.ownsRow base 38 2 v k (l'.flatMap encS) := by subst e hn; exact h
theorem splice_fwd {α : Type} (cur X Y Z : List α) (h0 : cur.take X.length = X) (hl : X.length + Y.length + Z.length ≤ cur.length) : (splice (splice cur X.length Y) (X.length + Y.length) Z).take (X.length + Y.length + Z.length) = X ++ Y ++ Z := by
  have e1 : splice cur X.length Y = (X ++ Y) ++ cur.drop (X.length + Y.length) := by unfold splice; rw [h0, List.append_assoc]
  have e2 : splice ((X ++ Y) ++ cur.drop (X.length + Y.length)) (X.length + Y.length) Z = (X ++ Y ++ Z) ++ (cur.drop (X.length + Y.length)).drop Z.length := by
    generalize cur.drop (X.length + Y.length) = R
    unfold splice
    have a1 : (X ++ Y ++ R).take (X.length + Y.length) = X ++ Y := List.take_left' (by simp)
    have a2 : (X ++ Y ++ R).drop (X.length + Y.length + Z.length) = R.drop Z.length := by
      rw [List.drop_append, List.drop_eq_nil_of_le (by rw [List.length_append]; omega), List.nil_append, List.length_append, Nat.add_sub_cancel_left]
    rw [a1, a2, List.append_assoc (X ++ Y) Z]
  rw [e1, e2, List.take_left' (by simp [Nat.add_assoc])]
theorem splice_back {α : Type} (cur X Y Z : List α) (h0 : cur.take X.length = X) (hl : X.length + Y.length + Z.length ≤ cur.length) : (splice (splice cur (X.length + Y.length) Z) X.length Y).take (X.length + Y.length + Z.length) = X ++ Y ++ Z := by
  apply List.ext_getElem?
  intro j
  have l1 : (splice cur (X.length + Y.length) Z).length = cur.length := length_splice _ _ _ (by omega)
  rw [List.getElem?_take]
  split
  · rename_i hj
    rw [get_splice _ _ _ _ (by rw [l1]; omega), get_splice _ _ _ _ (by omega)]
    by_cases h1 : j < X.length
    · rw [if_pos h1, if_pos (by omega), List.append_assoc, List.getElem?_append_left h1]
      conv => rhs; rw [← h0]
      rw [List.getElem?_take, if_pos h1]
    · rw [if_neg h1]
      by_cases h2 : j < X.length + Y.length
      · rw [if_pos h2, List.getElem?_append_left (by simp; omega), List.getElem?_append_right (by omega)]
      · rw [if_neg h2, if_neg h2, if_pos (by omega), List.getElem?_append_right (by simp; omega)]
        congr 1
        simp
  · rename_i hj
    rw [List.getElem?_eq_none (by simp; omega)]
theorem drop_cells {cur : List Value} {l : List Sp} {n : Nat} (h : cur.take (n * 2) = l.flatMap encS) (i j : Nat) (u : Value) (hu : ((l.drop i).flatMap encS)[j]? = some u) : (cur.drop (i * 2))[j]? = some u := by
  rw [flatS_drop, ← h, List.getElem?_drop, List.getElem?_take] at hu
  rw [List.getElem?_drop]
  split at hu
  · exact hu
  · cases hu
theorem row_at {w w' : World} {g B : Nat} {cur : List Value} {T : TypeId} (h : w.heap[g]? = some (.cells cur.toArray T (0, 0))) (hb : Below B w w') (hg : g < B) : w'.heap[g]? = some (.cells cur.toArray T (0, 0)) := (hb.block g hg).trans h
theorem row_shape {w : World} {g : Nat} {cur : List Value} {T : TypeId} (h : w.heap[g]? = some (.cells cur.toArray T (0, 0))) : w.shape? g = some (T, cur.length) := by
  unfold World.shape?; rw [h]; simp
theorem row_free {w : World} {g : Nat} {cur : List Value} {T : TypeId} (h : w.heap[g]? = some (.cells cur.toArray T (0, 0))) (o : Nat) : w.frozen? ⟨g, o, none⟩ = false := by
  unfold World.frozen?; rw [h]; simp
/-- Two rows do not overlap. -/
theorem overlaps_no {w : World} {g gu : Nat} {cur curu : List Value} (hne : gu ≠ g) (h : w.heap[g]? = some (.cells cur.toArray 38 (0, 0))) (hu : w.heap[gu]? = some (.cells curu.toArray 38 (0, 0))) (hc : cur.length ≠ 0) (o la ca lb cb : Nat) :
    (callFunc 124 #[.slice (some ⟨gu, 0, none⟩) la ca, .slice (some ⟨g, o, none⟩) lb cb]).run Tryz.prog w = .ok (.value (.bool false)) w := by
  rw [run_callFunc_extern Tryz.func124 (by kernel_rfl) (by kernel_rfl) (by kernel_rfl) (e := Extern.SlicesOverlaps.overlaps #[29, 29] #[4]) (by kernel_rfl),
    Go.Lib.run_overlaps_apart w 29 4 38 Tryz.underlying29 2 Tryz.sizeOf38 ⟨gu, 0, none⟩ ⟨g, o, none⟩ la ca lb cb hne 38 38 curu.length cur.length (row_shape hu) (row_shape h) hc (row_free hu 0) (row_free hu _)]
  rfl
theorem overlaps_no' {w : World} {g gu : Nat} {cur curu : List Value} (hne : gu ≠ g) (h : w.heap[g]? = some (.cells cur.toArray 38 (0, 0))) (hu : w.heap[gu]? = some (.cells curu.toArray 38 (0, 0))) (hc : curu.length ≠ 0) (o la ca lb cb : Nat) :
    (callFunc 124 #[.slice (some ⟨g, o, none⟩) lb cb, .slice (some ⟨gu, 0, none⟩) la ca]).run Tryz.prog w = .ok (.value (.bool false)) w := by
  rw [run_callFunc_extern Tryz.func124 (by kernel_rfl) (by kernel_rfl) (by kernel_rfl) (e := Extern.SlicesOverlaps.overlaps #[29, 29] #[4]) (by kernel_rfl),
    Go.Lib.run_overlaps_apart w 29 4 38 Tryz.underlying29 2 Tryz.sizeOf38 ⟨g, o, none⟩ ⟨gu, 0, none⟩ lb cb la ca (Ne.symm hne) 38 38 cur.length curu.length (row_shape h) (row_shape hu) hc (row_free h o) (row_free h _)]
  rfl
/-- A copy onto a row, as an equation for the walk. -/
theorem copy_run {w w0 : World} {B : Nat} (dT sT : TypeId) (hu : Tryz.prog.underlying dT = some (.slice 38)) (dp sp : Option Addr) (dLen dCap sLen sCap n : Nat)
    (g off : Nat) (cur : List Value) (hg : w.heap[g]? = some (.cells cur.toArray 38 (0, 0))) (cs : List Value) (hmin : Nat.min sLen dLen = n) (hn : cs.length = n * 2)
    (hpos : 0 < cs.length → dp = some ⟨g, off, none⟩ ∧ ∃ ad, sp = some ad ∧ ∀ j v, cs[j]? = some v → w.cell? (ad.add j) = some v)
    (hfit : off + cs.length ≤ cur.length) (h1 : ∀ v ∈ cs, v.oneCell' = true) (hb : Below B w0 w) (hBg : B ≤ g) :
    ∃ w', (∀ ty, (Builtin.copy_ #[dT, sT] ty #[.slice dp dLen dCap, .slice sp sLen sCap]).run Tryz.prog w = .ok (goInt n) w') ∧ w'.heap[g]? = some (.cells (splice cur off cs).toArray 38 (0, 0)) ∧ Below B w0 w' ∧ (∀ b, b ≠ g → w'.heap[b]? = w.heap[b]?) ∧ w'.heap.size = w.heap.size := by
  by_cases h0 : cs.length = 0
  · obtain rfl : cs = [] := List.eq_nil_of_length_eq_zero h0
    obtain rfl : n = 0 := by simp at hn; omega
    exact ⟨w, fun ty => run_copy_noneK (P := Tryz.prog) w 2 dT sT ty 38 dp sp dLen dCap sLen sCap hu sizeSp hmin, by simpa [splice] using hg, hb, fun _ _ => rfl, rfl⟩
  · obtain ⟨rfl, ad, rfl, hsrc⟩ := hpos (by omega)
    refine ⟨_, fun ty => by rw [← hmin]; exact run_copy_rowK (P := Tryz.prog) w 2 dT sT ty 38 g off dLen dCap ad sLen sCap cur.toArray 38 cs hu sizeSp hg (by rw [hmin]; exact hn) hsrc (by simpa using hfit) h1, by simpa [splice] using setRow_heap w g _ _ _ _ hg, below_setRow hb hBg _, fun b hb => setRow_other w g b _ hb, by simp [World.setRow]⟩
set_option maxRecDepth 100000 in
set_option maxHeartbeats 4000000 in
theorem sinsert_w (base base2 : Nat) (v u : Value) (l m : List Sp) (i : Nat) (w : World) (hv : w.ownsRow base 38 2 v l.length (l.flatMap encS)) (hu : w.ownsRow base2 38 2 u m.length (m.flatMap encS))
    (hsep : ∀ k, v.ownBlock = some k → k < base2) (hb : base ≤ w.heap.size) (hi : i ≤ l.length) (hl : l.length ≤ 100000000) (hm : m.length ≤ 100000000) :
    Calls Tryz.prog 123 #[v, .int .i64 i, u] w fun e w' => ∃ v', e = .returned v' ∧ w'.ownsRow base 38 2 v' (l.take i ++ m ++ l.drop i).length ((l.take i ++ m ++ l.drop i).flatMap encS) ∧ Turn v v' w w' := by
  have mixed := mixedA
  have Hv := Lib.hid hv
  have Hu := Lib.hid hu
  obtain ⟨pu, capu, rfl, hcu, hmu, hpu⟩ := own_form hu
  unfold maxLen at hmu
  by_cases hm0 : m.length = 0
  · obtain rfl : m = [] := List.eq_nil_of_length_eq_zero hm0
    have Hres : Hid (w.ownsRow base 38 2 v (l.take i ++ [] ++ l.drop i).length ((l.take i ++ [] ++ l.drop i).flatMap encS)) := Lib.hid (own_same hv (take_drop_same l i).symm (by rw [take_drop_same]))
    rcases hv.2 with ⟨rfl, h0⟩ | ⟨g, cap, cur, rfl, hbg, hg, hn, hcm, hcs, ht⟩
    · obtain rfl : i = 0 := by omega
      clear hv hu hsep hpu
      go_enter Tryz.func123, Tryz.ntmps123
      go_wp2
      go_ret
      exact ⟨_, rfl, Hres.out, turn_refl _ _⟩
    · unfold maxLen at hcm
      have hi2 : i ≤ cap := by omega
      by_cases hci : cap = i
      · have hci2 : i = l.length := by omega
        clear hv hu hsep hpu hg ht hcs
        go_enter Tryz.func123, Tryz.ntmps123
        go_wp2
        go_ret
        exact ⟨_, rfl, Hres.out, turn_refl _ _⟩
      · clear hv hu hsep hpu hg ht hcs
        go_enter Tryz.func123, Tryz.ntmps123
        go_wp2
        go_ret
        exact ⟨_, rfl, Hres.out, turn_refl _ _⟩
  · obtain ⟨gu, rfl⟩ := hpu (by omega)
    have hmz : ((m.length : Int) == 0) = false := by rw [beq_eq_false_iff_ne]; omega
    by_cases hin : i = l.length
    · subst hin
      rcases hv.2 with ⟨rfl, h0⟩ | ⟨g, cap, cur, rfl, hbg, hg, hn, hcm, hcs, ht⟩
      · clear hv hu hsep hpu hm0
        go_enter Tryz.func123, Tryz.ntmps123
        go_wp2_with (at_builtin; refine append_dead rfl _ _ rfl base _ l l.length rfl Hv.out base2 _ m rfl Hu.out (by omega) hb ?_; intro v2 w2 ho hbl _; have Ho := Lib.hid ho; have Hb := Lib.hid hbl; clear ho hbl)
        go_ret
        exact ⟨_, rfl, own_same Ho.out (by simp) (by simp), Hb.out⟩
      · unfold maxLen at hcm
        by_cases hci : cap = l.length
        · clear hv hu hsep hpu hm0 hg ht hcs
          go_enter Tryz.func123, Tryz.ntmps123
          go_wp2_with (at_builtin; refine append_dead rfl _ _ rfl base _ l l.length rfl Hv.out base2 _ m rfl Hu.out (by omega) hb ?_; intro v2 w2 ho hbl _; have Ho := Lib.hid ho; have Hb := Lib.hid hbl; clear ho hbl)
          go_ret
          exact ⟨_, rfl, own_same Ho.out (by simp) (by simp), Hb.out⟩
        · clear hv hu hsep hpu hm0 hg ht hcs
          go_enter Tryz.func123, Tryz.ntmps123
          go_wp2_with (at_builtin; refine append_dead rfl _ _ rfl base _ l l.length rfl Hv.out base2 _ m rfl Hu.out (by omega) hb ?_; intro v2 w2 ho hbl _; have Ho := Lib.hid ho; have Hb := Lib.hid hbl; clear ho hbl)
          go_ret
          exact ⟨_, rfl, own_same Ho.out (by simp) (by simp), Hb.out⟩
    · obtain ⟨g, hvg⟩ : ∃ g, v.ownBlock = some g := by
        rcases hv.2 with ⟨rfl, h0⟩ | ⟨g, cap, cur, rfl, _⟩
        · omega
        · exact ⟨g, rfl⟩
      obtain ⟨pv, cap, rfl, hnc, hcm, hpv⟩ := own_form hv
      obtain ⟨g', rfl⟩ := hpv (by omega)
      obtain rfl : g' = g := by simpa [Value.ownBlock] using hvg
      have hgb := hsep g' rfl
      obtain ⟨cur, r1, r2, r3, r4, r5, r6, -⟩ := own_row hv
      obtain ⟨curu, q1, q2, q3, q4, q5, q6, -⟩ := own_row hu
      unfold maxLen at hcm
      have hine : ((i : Int) == (l.length : Int)) = false := by rw [beq_eq_false_iff_ne]; omega
      have hci : ¬ cap = i := by omega
      have hgu : g' < gu := Nat.lt_of_lt_of_le hgb q4
      have hguw : gu < w.heap.size := by rw [Array.getElem?_eq_some_iff] at q1; exact q1.1
      have R1 := Lib.hid r1
      have Q1 := Lib.hid q1
      clear hv hu hpu hpv hvg r1 q1 hsep
      have hdl : ((l.drop i).flatMap encS).length = (l.length - i) * 2 := by rw [flatS_len, List.length_drop]
      have htl : ((l.take i).flatMap encS).length = i * 2 := by rw [flatS_len, List.length_take]; omega
      have hml : (m.flatMap encS).length = m.length * 2 := flatS_len m
      have hre : (l.take i ++ m ++ l.drop i).flatMap encS = (l.take i).flatMap encS ++ m.flatMap encS ++ (l.drop i).flatMap encS := by rw [List.flatMap_append, List.flatMap_append]
      have hrl : (l.take i ++ m ++ l.drop i).length = l.length + m.length := by simp; omega
      by_cases hgrow : cap < l.length + m.length
      · obtain ⟨k, hk⟩ : ∃ k, i + k = l.length + m.length := ⟨l.length + m.length - i, by omega⟩
        clear hm0
        go_enter Tryz.func123, Tryz.ntmps123
        go_wp2_with (at_builtin; refine append_zeros rfl (.tmp 34) (.tmp 39) rfl base g' i cap (l.take i) rfl (owns_take Hv.out i (by omega)) k (by simp [Act.eval]; omega) (by omega) (by omega) (by omega) ?_; intro w2 cap' cur2 k1 k2 k3 k4 k5 k6 k7; have K4 := Lib.hid k4; have K6 := Lib.hid k6; have hc' : ¬ cap' = i := (by omega); clear k4 k6)
        have hsrc : ∀ j x, (m.flatMap encS)[j]? = some x → w2.cell? ((⟨gu, 0, none⟩ : Addr).add j) = some x := (owns_below Hu.out K6.out).cells (g := gu) rfl
        obtain ⟨w3, hc3, h3, hb3, ho3, hs3⟩ := copy_run (w := w2) 108 29 Tryz.underlying108 (some ⟨w.heap.size, i * 2, none⟩) (some ⟨gu, 0, none⟩) (l.length + m.length - i) (cap' - i) m.length capu m.length w.heap.size (i * 2) cur2 k5.out (m.flatMap encS) (by simp only [Nat.min_def]; split <;> omega) hml (fun _ => ⟨rfl, ⟨gu, 0, none⟩, rfl, hsrc⟩) (by rw [hml, k3]; omega) (flatS_one m) K6.out (Nat.le_refl _)
        have HB3 := Lib.hid hb3
        have H3 := Lib.hid h3
        clear hsrc hb3 h3 ho3
        rw [hc3]
        go_upto_region 11 with fail
        have hb3 : Below w.heap.size w w3 := HB3.out
        have hsz : ¬ cap' = i + m.length := by omega
        have hd3 : ∀ wx : World, (∀ b : Nat, wx.heap[b]? = w3.heap[b]?) → Below w.heap.size w wx → ∃ w4, (∀ ty, (Builtin.copy_ #[108, 108] ty #[.slice (some ⟨w.heap.size, (i + m.length) * 2, none⟩) (l.length + m.length - (i + m.length)) (cap' - (i + m.length)), .slice (some ⟨g', i * 2, none⟩) (l.length - i) (cap - i)]).run Tryz.prog wx = .ok (goInt (l.length - i : Nat)) w4) ∧ w4.heap[w.heap.size]? = some (.cells (splice (splice cur2 (i * 2) (m.flatMap encS)) ((i + m.length) * 2) ((l.drop i).flatMap encS)).toArray 38 (0, 0)) ∧ Below w.heap.size w w4 := by
          intro wx hwx hbx
          have hlen3 : (splice cur2 (i * 2) (m.flatMap encS)).length = cap' * 2 := by rw [length_splice _ _ _ (by rw [hml, k3]; omega), k3]
          obtain ⟨w4, hc4, h4, hb4, ho4, hs4⟩ := copy_run (w := wx) 108 108 Tryz.underlying108 (some ⟨w.heap.size, (i + m.length) * 2, none⟩) (some ⟨g', i * 2, none⟩) (l.length + m.length - (i + m.length)) (cap' - (i + m.length)) (l.length - i) (cap - i) (l.length - i) w.heap.size ((i + m.length) * 2) _ (by rw [hwx]; exact H3.out) ((l.drop i).flatMap encS) (by simp only [Nat.min_def]; split <;> omega) hdl (fun _ => ⟨rfl, ⟨g', i * 2, none⟩, rfl, fun j x hj => row_cells (row_at R1.out hbx (by omega)) (i * 2) j x (drop_cells r3 i j x hj)⟩) (by rw [hdl, hlen3]; omega) (flatS_one _) hbx (Nat.le_refl _)
          exact ⟨w4, hc4, h4, hb4⟩
        obtain ⟨w4, hc4, h4, hb4⟩ := hd3 w3.drew (fun _ => rfl) (hb3.trans (below_drewN w3 1))
        have H4 := Lib.hid h4
        have HB4 := Lib.hid hb4
        clear h4 hb4 hd3 hb3
        go_region
        go_wp2
        go_ret
        refine ⟨_, rfl, ?_, turn_new HB4.out _ _ _⟩
        have e := splice_fwd cur2 ((l.take i).flatMap encS) (m.flatMap encS) ((l.drop i).flatMap encS) (by rw [htl]; exact K4.out) (by rw [htl, hml, hdl, k3]; omega)
        rw [htl, hml, hdl, show i * 2 + m.length * 2 + (l.length - i) * 2 = (l.length + m.length) * 2 by omega, show i * 2 + m.length * 2 = (i + m.length) * 2 by omega, ← hre] at e
        rw [hrl]
        exact row_own H4.out (by rw [length_splice _ _ _ (by rw [length_splice _ _ _ (by rw [hml, k3]; omega), hdl, k3]; omega), length_splice _ _ _ (by rw [hml, k3]; omega), k3]) e hb (by omega) k2 hrl.symm
      · have hge : l.length + m.length ≤ cap := by omega
        have hci2 : ¬ cap = i + m.length := by omega
        have hov := fun o lb cb => overlaps_no (w := w) (g := g') (gu := gu) (by omega) R1.out Q1.out (by rw [r2]; omega) o m.length capu lb cb
        obtain ⟨w4, hc4, h4, hb4, ho4, hs4⟩ := copy_run (w := w.drew) 108 108 Tryz.underlying108 (some ⟨g', (i + m.length) * 2, none⟩) (some ⟨g', i * 2, none⟩) (l.length + m.length - (i + m.length)) (cap - (i + m.length)) (l.length + m.length - i) (cap - i) (l.length - i) g' ((i + m.length) * 2) cur R1.out ((l.drop i).flatMap encS) (by simp only [Nat.min_def]; split <;> omega) hdl (fun _ => ⟨rfl, ⟨g', i * 2, none⟩, rfl, fun j x hj => row_cells (w := w) R1.out (i * 2) j x (drop_cells r3 i j x hj)⟩) (by rw [hdl, r2]; omega) (flatS_one _) (show Below base w w.drew from below_drewN w 1) r4
        have hsrc : ∀ j x, (m.flatMap encS)[j]? = some x → w4.cell? ((⟨gu, 0, none⟩ : Addr).add j) = some x := fun j x hj => by
          have := Hu.out.cells (g := gu) rfl j x hj
          rw [← this]
          exact World.cell?_of_block (by have := ho4 gu (by omega); unfold Addr.add; split <;> exact this)
        obtain ⟨w5, hc5, h5, hb5, ho5, -⟩ := copy_run (w := w4) 108 29 Tryz.underlying108 (some ⟨g', i * 2, none⟩) (some ⟨gu, 0, none⟩) (l.length + m.length - i) (cap - i) m.length capu m.length g' (i * 2) _ h4 (m.flatMap encS) (by simp only [Nat.min_def]; split <;> omega) hml (fun _ => ⟨rfl, ⟨gu, 0, none⟩, rfl, hsrc⟩) (by rw [hml, length_splice _ _ _ (by rw [hdl, r2]; omega), r2]; omega) (flatS_one m) hb4 r4
        have H5 := Lib.hid h5
        have HB5 := Lib.hid hb5
        have HO := Lib.hid (fun b (hne : b ≠ g') => (ho5 b hne).trans (ho4 b hne))
        clear h4 hb4 ho4 hs4 hsrc h5 hb5 ho5 hm0
        go_enter Tryz.func123, Tryz.ntmps123
        go_wp2_with (simp only [hov])
        go_region
        go_wp2
        go_ret
        refine ⟨_, rfl, ?_, turn_own HB5.out HO.out _ _ _ _⟩
        have e := splice_back cur ((l.take i).flatMap encS) (m.flatMap encS) ((l.drop i).flatMap encS) (by rw [htl, flatS_take, ← r3, List.take_take, Nat.min_eq_left (by omega)]) (by rw [htl, hml, hdl, r2]; omega)
        rw [htl, hml, hdl, show i * 2 + m.length * 2 + (l.length - i) * 2 = (l.length + m.length) * 2 by omega, show i * 2 + m.length * 2 = (i + m.length) * 2 by omega, ← hre] at e
        rw [hrl]
        exact row_own H5.out (by rw [length_splice _ _ _ (by rw [length_splice _ _ _ (by rw [hdl, r2]; omega), hml, r2]; omega), length_splice _ _ _ (by rw [hdl, r2]; omega), r2]) e r4 hge r6 hrl.symm

end Go.Proofs.YtfpcaoacbjhkgaaGreat
