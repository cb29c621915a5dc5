/-
  Walks: reference 11's Counts.
-/
import Derived.Test.YtlgangcldlphnaaQK
import Derived.ArgAppend
namespace Go.Proofs.Ytlgangcldlphnaa
open Go.RowKit Go.Sort
set_option linter.unusedVariables false
set_option maxRecDepth 100000

theorem run_litI (ty : TypeId) {w : World} (g : Nat) (hlit : Blk w g 3 #[]) (u : Value) (m : List Int) (hp : IsInts w u m) (hl : m.length ≤ 1000000000) :
    ∃ g' cap' w', (Builtin.append_ #[30, 30] ty #[.slice (some ⟨g, 0, none⟩) 0 0, u]).run Try.prog w = .ok (.slice (some ⟨g', 0, none⟩) m.length cap') w' ∧ w'.ownsRow g 3 1 (.slice (some ⟨g', 0, none⟩) m.length cap') m.length (m.flatMap encI) ∧ Below w.heap.size w w' ∧ (g' = g ∨ w.heap.size ≤ g') := by
  obtain ⟨i0, hi, hz0, hz1, hz2⟩ := info_parts infoI
  obtain ⟨p, cap, rfl, hpp⟩ := hp.any
  by_cases hm : m = []
  · subst hm
    refine ⟨g, 0, w, ?_, ⟨rfl, .inr ⟨g, 0, #[], rfl, Nat.le_refl _, hlit, Nat.le_refl _, by unfold maxLen; omega, rfl, rfl⟩⟩, Below.refl _ _, .inl rfl⟩
    cases p with
    | none => simp [Builtin.append_, run_underlying Try.underlying30, sizeOf, typeInfo, hi, Builtin.lenOf, Builtin.firstCells, storeCells]
    | some ad =>
      simp [Builtin.append_, run_underlying Try.underlying30, sizeOf, typeInfo, hi, Builtin.lenOf, Builtin.firstCells, storeCells]
      rfl
  · obtain ⟨b, off, rfl, hc⟩ := hpp hm
    have hnews : ∀ j u, (m.flatMap encI)[j]? = some u → w.cell? ((⟨b, off, none⟩ : Addr).add j) = some u := by
      refine cells_at fun j u hj => ?_
      obtain ⟨i, r, hi', rfl, hu⟩ := flat_any encI_len m j u hj
      rw [← Nat.add_assoc]
      exact hc i hi' r u hu
    have hpos : 0 < m.length := List.length_pos_iff.2 hm
    obtain ⟨v', w', hrun, r1, r2⟩ := run_append_arg_grows (P := Try.prog) w 30 ty 3 i0 (.int .i64 0) 1 8 Try.underlying30 hi hz0 hz1 hz2 rfl (by decide) ⟨g, 0, none⟩ 0 0 [] rfl (fun j u hj => by simp at hj) ⟨b, off, none⟩ m.length cap (m.flatMap encI) (flat_lenA encI_len m) hnews (by omega) (by unfold maxLen; omega) (by omega)
    rw [Nat.zero_add, List.nil_append] at r1
    rcases id r1.2 with ⟨_, h0⟩ | ⟨g', cap', cur, rfl, h1, _⟩
    · omega
    · exact ⟨g', cap', w', hrun, owns_lower r1 (Nat.le_of_lt hlit.lt), Below.grown (Below.refl _ _) r2 (Nat.le_refl _) (fun k hk => by cases hk), .inr h1⟩
theorem step_litI {ops : Array Oper} {o : Oper} {a : Act} {w : World} {K : Act → World → Prop} {Q : Exit → Act → World → Prop} {E : Prop} (hg : o.guard = none) (s x : Operand)
    (hop : o.op = .call { callee := .builtin .append, args := #[s, x], argTypes := #[30, 30] }) (g : Nat) (hs : a.eval s = .slice (some ⟨g, 0, none⟩) 0 0) (hlit : Blk w g 3 #[])
    (u : Value) (m : List Int) (hx : a.eval x = u) (hp : IsInts w u m) (hl : m.length ≤ 1000000000)
    (hK : ∀ g' cap' w', w'.ownsRow g 3 1 (.slice (some ⟨g', 0, none⟩) m.length cap') m.length (m.flatMap encI) → Below w.heap.size w w' → (g' = g ∨ w.heap.size ≤ g') → K (a.put o.dst (.slice (some ⟨g', 0, none⟩) m.length cap')) w') : if Region.wanted o (yielded ops a.tmps) = true then Oper.wp Try.prog o a w K Q else E := by
  have hw : Region.wanted o (yielded ops a.tmps) = true := by simp [Region.wanted, hg]
  rw [if_pos hw]
  obtain ⟨g', cap', w', hrun, r1, r2, r3⟩ := run_litI o.type g hlit u m hp hl
  unfold Oper.wp
  simp [execOp, hop, resolve, invoke, builtin, hs, hx, hrun, Result.andThen]
  exact hK g' cap' w' r1 r2 r3
theorem run_intsN (ty : TypeId) {w : World} (base g n cap : Nat) (l : List Int) (hown : w.ownsRow base 3 1 (.slice (some ⟨g, 0, none⟩) n cap) l.length (l.flatMap encI)) (u : Value) (m : List Int) (hp : IsInts w u m) (hl : l.length + m.length ≤ 1000000000) (hbase : base ≤ w.heap.size) :
    ∃ g' cap' w', (Builtin.append_ #[30, 30] ty #[.slice (some ⟨g, 0, none⟩) n cap, u]).run Try.prog w = .ok (.slice (some ⟨g', 0, none⟩) (l ++ m).length cap') w' ∧ w'.ownsRow base 3 1 (.slice (some ⟨g', 0, none⟩) (l ++ m).length cap') (l ++ m).length ((l ++ m).flatMap encI) ∧ w.grownBy w' (some g) ∧ (g' = g ∨ w.heap.size ≤ g') := by
  obtain ⟨i0, hi, hz0, hz1, hz2⟩ := info_parts infoI
  obtain ⟨p, c, rfl, hpp⟩ := hp.any
  obtain ⟨hnl, hncap, hcm, hbg⟩ : n = l.length ∧ n ≤ cap ∧ cap ≤ maxLen ∧ base ≤ g := by
    rcases hown.2 with ⟨h, _⟩ | ⟨g1, cap1, cur, h, h1, h2, h3, h4, _⟩
    · simp at h
    · simp only [Value.slice.injEq, Option.some.injEq, Addr.mk.injEq, and_true] at h
      obtain ⟨rfl, rfl, rfl⟩ := h
      exact ⟨rfl, h3, h4, h1⟩
  subst hnl
  by_cases hm : m = []
  · subst hm
    refine ⟨g, cap, w, ?_, by rw [List.append_nil]; exact hown, grown_refl _ _, .inl rfl⟩
    rw [List.append_nil]
    cases p with
    | none => simp [Builtin.append_, run_underlying Try.underlying30, sizeOf, typeInfo, hi, Builtin.lenOf, Builtin.firstCells, hncap, storeCells]
    | some ad =>
      simp [Builtin.append_, run_underlying Try.underlying30, sizeOf, typeInfo, hi, Builtin.lenOf, Builtin.firstCells, hncap, storeCells, hz1]
      rfl
  · obtain ⟨b, off, rfl, hc⟩ := hpp hm
    have hnews : ∀ j u, (m.flatMap encI)[j]? = some u → w.cell? ((⟨b, off, none⟩ : Addr).add j) = some u := by
      refine cells_at fun j u hj => ?_
      obtain ⟨i, r, hi', rfl, hu⟩ := flat_any encI_len m j u hj
      rw [← Nat.add_assoc]
      exact hc i hi' r u hu
    have h1c : ∀ u ∈ m.flatMap encI, u.oneCell' = true := fun u hu => by obtain ⟨y, _, hy⟩ := List.mem_flatMap.1 hu; exact encI_one y u hy
    by_cases hfit : l.length + m.length ≤ cap
    · obtain ⟨w', hrun, r1, r2⟩ := run_append_fits (P := Try.prog) w base 30 ty 3 i0 1 Try.underlying30 hi hz1 g l.length cap (l.flatMap encI) hown ⟨b, off, none⟩ m.length c (m.flatMap encI) (flat_lenA encI_len m) hnews h1c hfit
      refine ⟨g, cap, w', ?_, ?_, r2, .inl rfl⟩
      · rw [List.length_append]; exact hrun
      · rw [List.length_append, List.flatMap_append]; exact r1
    · have hpos : 0 < m.length := List.length_pos_iff.2 hm
      have holds : ∀ j u, (l.flatMap encI)[j]? = some u → w.cell? ((⟨g, 0, none⟩ : Addr).add j) = some u := by
        refine cells_at fun j u hj => ?_
        have hjl : j < l.length * 1 := by
          have := (List.getElem?_eq_some_iff.1 hj).1
          rwa [hown.1] at this
        rw [Nat.zero_add, hown.cellAt j hjl]; exact hj
      obtain ⟨v', w', hrun, r1, r2⟩ := run_append_arg_grows (P := Try.prog) w 30 ty 3 i0 (.int .i64 0) 1 8 Try.underlying30 hi hz0 hz1 hz2 rfl (by decide) ⟨g, 0, none⟩ l.length cap (l.flatMap encI) hown.1 holds ⟨b, off, none⟩ m.length c (m.flatMap encI) (flat_lenA encI_len m) hnews (by omega) (by unfold maxLen; omega) (by omega)
      rcases id r1.2 with ⟨_, h0⟩ | ⟨g', cap', cur, rfl, h1, _⟩
      · omega
      · refine ⟨g', cap', w', ?_, ?_, ⟨r2.os, r2.tape, r2.output, r2.size, fun k hk hr => r2.block k hk (fun e => by cases e)⟩, .inr h1⟩
        · rw [List.length_append]; exact hrun
        · rw [List.length_append, List.flatMap_append]; exact owns_lower r1 hbase
theorem append_intsN {w : World} {ops : Array Oper} {rest : List Oper} {o : Oper} {a : Act} {Q : Exit → Act → World → Prop} (hgd : o.guard = none) (s x : Operand)
    (ho : o.op = .call { callee := .builtin .append, args := #[s, x], argTypes := #[30, 30] }) (base g n cap : Nat) (l : List Int) (hs : a.eval s = .slice (some ⟨g, 0, none⟩) n cap) (hown : w.ownsRow base 3 1 (.slice (some ⟨g, 0, none⟩) n cap) l.length (l.flatMap encI))
    (u : Value) (m : List Int) (hx : a.eval x = u) (hp : IsInts w u m) (hl : l.length + m.length ≤ 1000000000) (hbase : base ≤ w.heap.size)
    (h : ∀ g' cap' w', w'.ownsRow base 3 1 (.slice (some ⟨g', 0, none⟩) (l ++ m).length cap') (l ++ m).length ((l ++ m).flatMap encI) → w.grownBy w' (some g) → (g' = g ∨ w.heap.size ≤ g') → wpList Try.prog ops Q rest (a.put o.dst (.slice (some ⟨g', 0, none⟩) (l ++ m).length cap')) w') : wpList Try.prog ops Q (o :: rest) a w := by
  refine wpList_plain hgd fun K hK' => ?_
  obtain ⟨g', cap', w', hrun, r1, r2, r3⟩ := run_intsN o.type base g n cap l hown u m hp hl hbase
  have hk := h g' cap' w' r1 r2 r3
  clear h r1
  generalize (l ++ m).length = N at *
  unfold Oper.wp
  simp [execOp, ho, resolve, invoke, builtin, hs, hx, hrun, Result.andThen]
  exact hK' _ _ hk
theorem lit_blk {w : World} {n : Nat} (hn : n = w.heap.size) : Blk (w.alloc (.cells #[] 3)) n 3 #[] := by subst hn; exact Blk.new _ _ _
theorem blk_drew {w : World} {n : Nat} {T : TypeId} {cs : Array Value} (h : Blk w n T cs) : Blk w.drew n T cs := h
theorem blk_newX {w : World} {n : Nat} {X : Array Value} (hn : n = w.heap.size) : Blk (w.alloc (.cells X 3)) n 3 X := by subst hn; exact Blk.new _ _ _
/-- What the first statement of Counts leaves. -/
def CntR (W1 : World) (n : Nat) (l : List Int) (s6 s7 : Value) (wx : World) : Prop := ∃ g g7 c7, s6 = .slice (some ⟨g, 0, none⟩) n n ∧ s7 = .slice (some ⟨g7, 0, none⟩) l.length c7 ∧ W1.heap.size ≤ g ∧ Blk wx g 3 (intsA (cntL [] n)) ∧
  wx.ownsRow W1.heap.size 3 1 (.slice (some ⟨g7, 0, none⟩) l.length c7) l.length (l.flatMap encI) ∧ g7 ≠ g ∧ Below W1.heap.size W1 wx
/-- The roots, and the kids of the first slots. -/
def allK (P : List Sl) (W : List Int) (k : Nat) : List Int := W ++ kidsA (P.take k)
theorem allK_zero (P : List Sl) (W : List Int) : allK P W 0 = W := by simp [allK, kidsA]
theorem allK_all (P : List Sl) (W : List Int) : allK P W P.length = W ++ kidsA P := by simp [allK]
theorem allK_snoc {P : List Sl} {W : List Int} {k : Nat} (h : k < P.length) : allK P W (k + 1) = allK P W k ++ ownK (atP P k) := by unfold allK; rw [kidsA_snoc h, List.append_assoc]
theorem allK_le (P : List Sl) (W : List Int) (k : Nat) : (allK P W k).length ≤ (W ++ kidsA P).length := by
  unfold allK; rw [List.length_append, List.length_append]; have := kidsA_take_le P k; omega
theorem cntL_nil_len (n : Nat) : (cntL [] n).length = n := cntL_len _ _
theorem run_makeI (w : World) (n : Nat) (hn : n ≤ 1000000) : (Instr.makeSlice 30 (.int .i64 (n : Int)) (.int .i64 (n : Int))).run Try.prog w = .ok (.slice (some ⟨w.heap.size, 0, none⟩) n n) (w.alloc (.cells (intsA (cntL [] n)) 3)) := by
  obtain ⟨i0, hi, hz0, hz1, hz2⟩ := info_parts infoI
  have hr := run_make (P := Try.prog) w 30 3 i0 (.int .i64 0) Try.underlying30 hi hz0 .i64 .i64 (n : Int) (n : Int) (by omega) (Int.le_refl _) (by rw [hz2]; omega) (by omega)
  rw [hz1] at hr
  simp only [Int.toNat_natCast] at hr
  rw [hr]
  congr 3
  rw [← made_zeros]
set_option maxHeartbeats 8000000 in
theorem counts_w (v u : Value) (P : List Sl) (W : List Int) (w : World) (h : IsSlots w v P) (hu : IsInts w u W) (hl : P.length ≤ 1000000) (hm : (W ++ kidsA P).length ≤ 1000000) :
    Calls Try.prog 50 #[poolV v, u] w fun e w' => ∃ v', e = .returned (.tuple #[v', .bool ((W ++ kidsA P).all (usedB P))]) ∧ IsInts w' v' (cntU P (W ++ kidsA P)) ∧ Below w.heap.size w w' := by
  have mixed := mixedA
  have H := Lib.hid h
  have HI := Lib.hid hu
  have HWL : Hid (W.length ≤ 1000000) := Lib.hid (by rw [List.length_append] at hm; omega)
  have HML := Lib.hid hm
  obtain ⟨a, cap, rfl, hle, hcm, hpm⟩ := h.slice
  obtain ⟨W1, hW1⟩ : ∃ W1, W1 = w.alloc (.cells #[.slice a P.length cap] 29) := ⟨_, rfl⟩
  have HBX : Hid (Blk W1 w.heap.size 29 #[.slice a P.length cap]) := Lib.hid (by rw [hW1]; exact Blk.new _ _ _)
  have HB1 : Hid (Below w.heap.size w W1) := Lib.hid (by rw [hW1]; exact below_box _)
  have HI1 : Hid (IsInts W1 u W) := Lib.hid (hu.below HB1.out)
  have HL0 : Hid (Below W1.heap.size W1 W1) := Lib.hid (Below.refl _ _)
  have HW1 := Lib.hid hW1
  clear h hu hm hW1
  go_enter Try.func50, Try.ntmps50
  go_upto_region 1 with fail
  rw [← HW1.out]
  go_cut [6, 7, 8] (fun s6 s7 s8 wx => s8 = .bool true ∧ Hid (CntR W1 P.length W s6 s7 wx))
  case first =>
    have x1 := cell_all (show W1.cell? ⟨w.heap.size, 0, none⟩ = some (.slice a P.length cap) from HBX.out.c0 0 _ rfl)
    obtain ⟨X, hX, hmk⟩ : ∃ X, X = intsA (cntL [] P.length) ∧ ∀ wx : World, (Instr.makeSlice 30 (.int .i64 (P.length : Int)) (.int .i64 (P.length : Int))).run Try.prog wx = .ok (.slice (some ⟨wx.heap.size, 0, none⟩) P.length P.length) (wx.alloc (.cells X 3)) := ⟨_, rfl, fun wx => run_makeI wx P.length hl⟩
    have HX := Lib.hid hX
    clear hX
    go_region_held3 (fun wx => Below W1.heap.size W1 wx)
      (repeat (first | with_reducible assumption | with_reducible exact HL0.out | with_reducible refine Below.drew ?_ | with_reducible refine keepP ?_ _))
      (first
        | (refine step_litI rfl _ _ rfl (W1.heap.size) rfl (by repeat (first | with_reducible exact lit_blk (by simp) | with_reducible refine Blk.alloc ?_ _ | with_reducible refine blk_drew ?_)) u W rfl (HI1.out.below (by repeat (first | with_reducible assumption | with_reducible exact HL0.out | with_reducible refine Below.drew ?_ | with_reducible refine keepP ?_ _))) (by have := HWL.out; omega) ?_; intro v3 c3 y3 ho3 ht3 hn3; have hS3 : Below W1.heap.size W1 y3 := Below.trans (by repeat (first | with_reducible assumption | with_reducible exact HL0.out | with_reducible refine Below.drew ?_ | with_reducible refine keepP ?_ _)) (ht3.mono (by simp; try omega)))
        | (refine step_litI rfl _ _ rfl (W1.heap.size + 1) rfl (by repeat (first | with_reducible exact lit_blk (by simp) | with_reducible refine Blk.alloc ?_ _ | with_reducible refine blk_drew ?_)) u W rfl (HI1.out.below (by repeat (first | with_reducible assumption | with_reducible exact HL0.out | with_reducible refine Below.drew ?_ | with_reducible refine keepP ?_ _))) (by have := HWL.out; omega) ?_; intro v3 c3 y3 ho3 ht3 hn3; have hS3 : Below W1.heap.size W1 y3 := Below.trans (by repeat (first | with_reducible assumption | with_reducible exact HL0.out | with_reducible refine Below.drew ?_ | with_reducible refine keepP ?_ _)) (ht3.mono (by simp; try omega)))
        | fail "no arm")
    all_goals (go_wp2_with fail; go_meet)
    · refine ⟨rfl, Lib.hid ⟨_, _, _, rfl, rfl, Nat.le_refl _, ?_, owns_lower ho3 (by simp), fun e => ?_, hS3⟩⟩
      · rw [← HX.out]; exact (blk_drew ((blk_newX rfl).alloc _)).below ht3 (by simp; try omega)
      · rcases hn3 with h | h
        · omega
        · simp at h; omega
    · refine ⟨rfl, Lib.hid ⟨_, _, _, rfl, rfl, Nat.le_succ _, ?_, ho3, fun e => ?_, hS3⟩⟩
      · rw [← HX.out]; exact (blk_drew (blk_newX (by simp))).below ht3 (by simp; try omega)
      · rcases hn3 with h | h
        · omega
        · simp at h; omega
    · refine ⟨rfl, Lib.hid ⟨_, _, _, rfl, rfl, hS3.size, ?_, ho3.alloc _, fun e => ?_, keepP hS3 _⟩⟩
      · rw [← HX.out]; exact blk_newX rfl
      · have := (ho3.lt v3 rfl).2; omega
  case rest =>
    clear HL0
    obtain ⟨rfl, HC⟩ := hcut
    obtain ⟨g, g7, c7, rfl, rfl, hge, hM, hrow, hne, hbel⟩ := HC.out
    have HM := Lib.hid hM
    have HR : Hid (wc.ownsRow W1.heap.size 3 1 (.slice (some ⟨g7, 0, none⟩) (allK P W 0).length c7) (allK P W 0).length ((allK P W 0).flatMap encI)) := Lib.hid (by rw [allK_zero]; exact hrow)
    have HB := Lib.hid hbel
    have HNE := Lib.hid hne
    have HL7 : Hid (W.length = (allK P W 0).length) := Lib.hid (by rw [allK_zero])
    have HAM : Hid (∀ k, (allK P W k).length ≤ 1000000) := Lib.hid (fun k => Nat.le_trans (allK_le P W k) HML.out)
    clear hM hrow hbel hne HC HI1
    rw [HL7.out]
    go_wp2_with fail
    go_loopw [7, 9] (fun s7 i wr => ∃ (k g7 c7 : Nat), k ≤ P.length ∧ i = .int .i64 k ∧ s7 = .slice (some ⟨g7, 0, none⟩) (allK P W k).length c7 ∧ Hid (wr.ownsRow W1.heap.size 3 1 (.slice (some ⟨g7, 0, none⟩) (allK P W k).length c7) (allK P W k).length ((allK P W k).flatMap encI)) ∧ Hid (g7 ≠ g) ∧ Hid (Blk wr g 3 (intsA (cntL [] P.length))) ∧ Hid (Below W1.heap.size W1 wr)) (fun _ i _ => P.length - (intOf i).toNat)
    case atStart => exact ⟨0, g7, c7, Nat.zero_le _, rfl, rfl, HR, HNE, HM, HB⟩
    case round =>
      clear HR HM HB HNE HL7
      obtain ⟨k, g8, c8, hk, rfl, rfl, HR, HNE, HM, HB⟩ := hrel
      have HBw : Hid (Below w.heap.size w wr) := Lib.hid (HB1.out.trans (HB.out.mono HB1.out.size))
      have p0 : wr.cell? ⟨w.heap.size, 0, none⟩ = some (.slice a P.length cap) := (HBX.out.below HB.out HBX.out.lt).c0 0 _ rfl
      by_cases hlt : k < P.length
      · have hltz : (k : Int) < (P.length : Int) := by omega
        obtain ⟨bb, off, cap', s, he, hbl, hlz, hs, x0, x1, x2, x3, x4, x5, x6, x7⟩ := slot_at (H.out.below HBw.out) k hlt
        injection he with he1 he2 he3
        subst he1 he3
        clear he2
        have HSN := Lib.hid (allK_snoc (W := W) hlt)
        have HKI := Lib.hid hs.kids
        have HU := Lib.hid hs.used
        have HK1 := HAM.out (k + 1)
        clear hs
        cases hu : s.used
        · rw [hu] at x0
          have HSN2 : Hid (allK P W (k + 1) = allK P W k) := Lib.hid (by rw [HSN.out]; unfold ownK; rw [← HU.out, hu]; simp)
          clear hu HK1
          go_wp2
          go_roundw
          case rel => exact ⟨k + 1, g8, c8, by omega, by go_num, by rw [HSN2.out], by rw [HSN2.out]; exact HR, HNE, HM, HB⟩
          case measure => simp [intOf]; omega
        · rw [hu] at x0
          have HSN2 : Hid (allK P W (k + 1) = allK P W k ++ (atP P k).node.kids) := Lib.hid (by rw [HSN.out]; unfold ownK; rw [← HU.out, hu]; rfl)
          have HLN : Hid ((allK P W k).length + (atP P k).node.kids.length ≤ 1000000000) := Lib.hid (by rw [HSN2.out, List.length_append] at HK1; omega)
          clear hu HK1
          go_wp2_with (at_builtin; refine append_intsN rfl _ _ rfl W1.heap.size g8 _ c8 (allK P W k) rfl HR.out _ (atP P k).node.kids rfl HKI.out HLN.out HB.out.size ?_; intro g9 c9 w9 hown hgr hnew; have HO9 := Lib.hid hown; have HG9 := Lib.hid hgr; have HN9 := Lib.hid hnew; clear hown hgr hnew)
          go_roundw
          case rel =>
            refine ⟨k + 1, g9, c9, by omega, by go_num, by rw [HSN2.out]; simp, Lib.hid (by rw [HSN2.out]; exact HO9.out), Lib.hid (fun e => ?_), Lib.hid (grown_blk HG9.out HM.out (fun e => HNE.out (Option.some.inj e))), Lib.hid (Below.grown HB.out HG9.out HB.out.size (fun q hq => by injection hq with hq; subst hq; exact (HR.out.lt g8 rfl).1))⟩
            rcases HN9.out with h | h
            · exact HNE.out (h.symm.trans e)
            · have := HM.out.lt; omega
          case measure => simp [intOf]; omega
      · obtain rfl : k = P.length := by omega
        obtain ⟨A, hA⟩ : ∃ A, A = allK P W P.length := ⟨_, rfl⟩
        have HA : Hid (A = W ++ kidsA P) := Lib.hid (by rw [hA, allK_all])
        have HAL : Hid (A.length ≤ 1000000) := Lib.hid (by rw [hA]; exact HAM.out _)
        rw [← hA] at HR
        rw [← hA]
        clear hA HAM HML
        have HI9 := Lib.hid (IsInts.owned HR.out)
        obtain ⟨wo, hwo⟩ : ∃ wo, wo = wr := ⟨_, rfl⟩
        subst hwo
        have HM0 : Hid (Blk wo g 3 (intsA (cntU P (A.take 0)))) := Lib.hid (by exact HM.out)
        have hal : (A.length : Int) ≤ 1000000 := by have := HAL.out; omega
        go_wp2_with fail
        clear p0
        go_loopw [8, 10] (fun ok i wr => ∃ k : Nat, k ≤ A.length ∧ i = .int .i64 k ∧ ok = .bool ((A.take k).all (usedB P)) ∧ Hid (Blk wr g 3 (intsA (cntU P (A.take k)))) ∧ Hid (wr.ownsRow W1.heap.size 3 1 (.slice (some ⟨g8, 0, none⟩) A.length c8) A.length (A.flatMap encI)) ∧ Hid (Below W1.heap.size W1 wr)) (fun _ i _ => A.length - (intOf i).toNat)
        case atStart => exact ⟨0, Nat.zero_le _, rfl, rfl, HM0, HR, HB⟩
        case round =>
          clear HM0 HR HB HM HI9 HBw
          obtain ⟨j, hj, rfl, rfl, HM, HR, HB⟩ := hrel
          have HBw : Hid (Below w.heap.size w wr) := Lib.hid (HB1.out.trans (HB.out.mono HB1.out.size))
          obtain ⟨q, hq⟩ : ∃ q, (A.take j).all (usedB P) = q := ⟨_, rfl⟩
          rw [hq]
          have HQ := Lib.hid hq
          clear hq
          by_cases hlt : j < A.length
          · have hltz : (j : Int) < (A.length : Int) := by omega
            have p0 := cell_all (show wr.cell? ⟨w.heap.size, 0, none⟩ = some (.slice a P.length cap) from (HBX.out.below HB.out HBX.out.lt).c0 0 _ rfl)
            obtain ⟨b5, off5, cap5, he, hbl5, hlz5, y0⟩ := at_int (IsInts.owned HR.out) j hlt
            injection he with he1 he2 he3
            injection he1 with he1
            injection he1 with he4 he5
            subst he4 he5 he3
            clear he2
            rw [Nat.zero_add] at y0
            have y0 := cell_all y0
            have HTK := Lib.hid (take_snocI hlt)
            obtain ⟨x, hx⟩ : ∃ x, x = A[j] := ⟨_, rfl⟩
            rw [← hx] at y0 HTK
            clear hx
            have HL0 : Hid (Below wr.heap.size wr wr) := Lib.hid (Below.refl _ _)
            have HU := Lib.hid (fun wx (hx : Below wr.heap.size wr wx) => (rused_w (.slice a P.length cap) P x wx (H.out.below (HBw.out.trans (hx.mono HBw.out.size)))).mono fun e w' (h : _ ∧ _) => (⟨h.1, hx.trans (h.2.mono hx.size)⟩ : e = .returned (.bool (usedB P x)) ∧ Below wr.heap.size wr w'))
            have HN : Hid ((A.take (j + 1)).all (usedB P) = (q && usedB P x)) := Lib.hid (by rw [HTK.out, List.all_append, HQ.out]; simp)
            have HC : Hid (cntU P (A.take (j + 1)) = cntL ((A.take j).filter (usedB P) ++ if usedB P x then [x] else []) P.length) := Lib.hid (by
              unfold cntU; rw [HTK.out, List.filter_append]; congr 2; by_cases h : usedB P x = true <;> simp [h])
            by_cases hu : usedB P x = true
            · rw [hu] at HU HN HC
              obtain ⟨u0, u1⟩ := usedB_lt hu
              obtain ⟨kk, rfl⟩ : ∃ kk : Nat, x = kk := ⟨x.toNat, by omega⟩
              have hkl : kk < P.length := by omega
              have hkz : (kk : Int) < (P.length : Int) := by omega
              obtain ⟨n, hn⟩ : ∃ n : Nat, n = ((A.take j).filter (usedB P)).count (kk : Int) := ⟨_, rfl⟩
              have hnb : n ≤ 1000000 := by
                rw [hn]
                exact Nat.le_trans List.count_le_length (Nat.le_trans (List.length_filter_le _ _) (by rw [List.length_take]; omega))
              have HC2 : Hid (cntU P (A.take (j + 1)) = (cntU P (A.take j)).set kk ((n : Int) + 1)) := Lib.hid (by
                rw [HC.out, if_pos rfl, cntL_snoc hkl, ← hn]; rfl)
              have c0 : wr.cell? ⟨g, kk, none⟩ = some (.int .i64 (n : Int)) := HM.out.c0 kk _ (by rw [ints_get (by rw [cntU_len]; exact hkl)]; congr 2; unfold cntU; rw [cntL_get hkl, hn])
              have c0 := cell_all c0
              clear hn hu u0 u1 HC
              go_wp2_with fail
              go_region_held3 (fun wx => Below wr.heap.size wr wx)
                (repeat (first | with_reducible assumption | with_reducible exact HL0.out | with_reducible refine Below.drew ?_))
                (first
                  | (go_at_call 34; (with_reducible refine (HU.out _ (by repeat (first | with_reducible assumption | with_reducible exact HL0.out | with_reducible refine Below.drew ?_))).mono ?_); rintro e2 y2 ⟨rfl, hS2⟩)
                  | fail "no arm")
              have HS2 := Lib.hid hS2
              have HM2 := Lib.hid (HM.out.below hS2 HM.out.lt)
              have c1 := c0 _ hS2
              have y1 := y0 _ hS2
              have f1 := HM2.out.free kk
              clear c0 y0 p0 hS2
              go_wp2
              go_roundw
              case rel =>
                refine ⟨j + 1, by omega, by go_num, by rw [HN.out]; simp, Lib.hid ?_, Lib.hid (own_other (owns_below HR.out HS2.out) g kk (.int .i64 ((n : Int) + 1)) (fun e => HNE.out (Option.some.inj e))), Lib.hid ((HB.out.trans (HS2.out.mono HB.out.size)).setCell (by exact hge) _)⟩
                have := HM2.out.setCell kk (.int .i64 ((n : Int) + 1))
                rw [ints_set] at this
                rw [HC2.out]
                exact this
              case measure => simp [intOf]; omega
            · have hu : usedB P x = false := by simpa using hu
              rw [hu] at HU HN HC
              have HC2 : Hid (cntU P (A.take (j + 1)) = cntU P (A.take j)) := Lib.hid (by rw [HC.out, if_neg (by simp), List.append_nil]; rfl)
              clear hu HC
              go_wp2_with fail
              go_region_held3 (fun wx => Below wr.heap.size wr wx)
                (repeat (first | with_reducible assumption | with_reducible exact HL0.out | with_reducible refine Below.drew ?_))
                (first
                  | (go_at_call 34; (with_reducible refine (HU.out _ (by repeat (first | with_reducible assumption | with_reducible exact HL0.out | with_reducible refine Below.drew ?_))).mono ?_); rintro e2 y2 ⟨rfl, hS2⟩)
                  | fail "no arm")
              have HS2 := Lib.hid hS2
              clear y0 p0 hS2
              go_wp2
              go_roundw
              case rel =>
                exact ⟨j + 1, by omega, by go_num, by rw [HN.out]; simp, Lib.hid (by rw [HC2.out]; exact HM.out.below HS2.out HM.out.lt), Lib.hid (owns_below HR.out HS2.out), Lib.hid (HB.out.trans (HS2.out.mono HB.out.size))⟩
              case measure => simp [intOf]; omega
          · obtain rfl : j = A.length := by omega
            rw [List.take_length] at HQ HM
            go_wp2
            go_ret2
            refine ⟨.slice (some ⟨g, 0, none⟩) P.length P.length, by rw [← HA.out, HQ.out]; rfl, ?_, HBw.out⟩
            rw [← HA.out]
            refine ⟨some ⟨g, 0, none⟩, P.length, by rw [cntU_len], by rw [cntU_len]; exact Nat.le_refl _, by unfold maxLen; omega, fun _ => ⟨g, 0, rfl, HM.out.lt, fun i hi => ?_⟩⟩
            rw [Nat.zero_add]
            exact HM.out.c0 i _ (ints_get hi)

end Go.Proofs.Ytlgangcldlphnaa
