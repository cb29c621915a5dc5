/-
  Walks: reference 11's zero, Counts.
-/
import Derived.Test.YtlgangcldlphnaaQI
import Derived.Test.YtlgangcldlphnaaQJ
import Derived.Test.YtlgangcldlphnaaPX0
namespace Go.Proofs.Ytlgangcldlphnaa
open Go.RowKit Go.Sort
set_option linter.unusedVariables false
set_option maxRecDepth 100000

set_option maxHeartbeats 2000000 in
theorem zero_w (v : Sv) (s : Sl) (w : World) (h : IsSl w v s) (hz : SmallSl s) (hus : s.used = false) :
    Calls Try.prog 51 #[slotV v] w fun e w' => e = .returned (.bool (zeroB s)) ∧ Below w.heap.size w w' := by
  have mixed := mixedA
  obtain ⟨n0, n1, n2, n3, n4⟩ := h.lens
  obtain ⟨z0, z1, z2, z3, z4⟩ := hz
  have hu := h.used
  have hlo := h.lost
  have hr := h.refs
  clear h
  obtain ⟨vu, vl, vr, ⟨a0, a1, a2⟩, ⟨b0, b1, b2⟩, ⟨c0, c1, c2⟩, ⟨d0, d1, d2⟩, ⟨f0, f1, f2⟩⟩ := v
  simp only at n0 n1 n2 n3 n4 hu hlo hr
  rw [hus] at hu
  subst hu
  have HQ : Hid (zeroB s = (!vl && vr == 0 && (a1 + b1 + c1 + d1 + f1 == 0))) := Lib.hid (by unfold zeroB; rw [hus, hlo, hr, n0, n1, n2, n3, n4]; simp)
  rw [← n0] at z0
  rw [← n1] at z1
  rw [← n2] at z2
  rw [← n3] at z3
  rw [← n4] at z4
  clear n0 n1 n2 n3 n4 hlo hr hus
  generalize zeroB s = q at *
  have HE : Hid (((a1 : Int) + (b1 : Int) + (c1 : Int) + (d1 : Int) + (f1 : Int) == 0) = (a1 + b1 + c1 + d1 + f1 == 0)) := Lib.hid (by rw [Bool.eq_iff_iff, beq_iff_eq, beq_iff_eq]; omega)
  cases vl
  · by_cases e0 : vr = 0
    · have hr0 : (vr == 0) = true := by simp [e0]
      have HE0 := Lib.hid hr0
      clear e0
      obtain ⟨q1, hq1⟩ : ∃ q1, ((a1 : Int) + (b1 : Int) + (c1 : Int) + (d1 : Int) + (f1 : Int) == 0) = q1 := ⟨_, rfl⟩
      have Hq1 := Lib.hid hq1
      cases q1
      all_goals
        go_enter Try.func51, Try.ntmps51
        go_wp2
        go_ret
        exact ⟨ret_bool (by rw [HQ.out, HE0.out, ← HE.out, Hq1.out]; rfl), (below_box _).trans ((below_box _).mono (by simp))⟩
    · have hr0 : (vr == 0) = false := by simpa using e0
      have HE0 := Lib.hid hr0
      clear e0
      go_enter Try.func51, Try.ntmps51
      go_wp2
      go_ret
      exact ⟨ret_bool (by rw [HQ.out, HE0.out]; rfl), (below_box _).trans ((below_box _).mono (by simp))⟩
  · go_enter Try.func51, Try.ntmps51
    go_wp2
    go_ret
    exact ⟨ret_bool (by rw [HQ.out]; rfl), (below_box _).trans ((below_box _).mono (by simp))⟩

theorem step_makeI {ops : Array Oper} {o : Oper} {a : Act} {w : World} {K : Act → World → Prop} {Q : Exit → Act → World → Prop} {E : Prop} (hg : o.guard = none) (l c : Operand)
    (hop : o.op = Op.makeSlice 30 l c) (n : Nat) (hl : a.eval l = .int .i64 (n : Int)) (hc : a.eval c = .int .i64 (n : Int)) (hn : n ≤ 1000000)
    (hK : ∀ w', Blk w' w.heap.size 3 (intsA (cntL [] n)) → Below w.heap.size w w' → K (a.put o.dst (.slice (some ⟨w.heap.size, 0, none⟩) n n)) w') : if Region.wanted o (yielded ops a.tmps) = true then Oper.wp Try.prog o a w K Q else E := by
  have hw : Region.wanted o (yielded ops a.tmps) = true := by simp [Region.wanted, hg]
  rw [if_pos hw]
  obtain ⟨i0, hi, hz0, hz1, hz2⟩ := info_parts infoI
  obtain ⟨w', hrun, r1, r2⟩ := run_make_full (P := Try.prog) w w.heap.size 30 3 i0 (.int .i64 0) 1 Try.underlying30 hi hz0 hz1 .i64 .i64 n (by rw [hz2]; omega) (by unfold maxLen; omega) (Nat.le_refl _)
  unfold Oper.wp
  simp [execOp, hop, hl, hc, hrun, Result.andThen]
  have hmk := own_blk r1
  rw [made_zeros] at hmk
  exact hK w' hmk.1 (Below.grown (Below.refl _ _) r2 (Nat.le_refl _) (fun k hk => by cases hk))
theorem kidsA_snoc {P : List Sl} {k : Nat} (h : k < P.length) : kidsA (P.take (k + 1)) = kidsA (P.take k) ++ ownK (atP P k) := by
  unfold kidsA
  rw [List.take_succ_eq_append_getElem h, List.flatMap_append, atP_lt h]
  simp
theorem kidsA_take_le (P : List Sl) (k : Nat) : (kidsA (P.take k)).length ≤ (kidsA P).length := by
  unfold kidsA
  conv => rhs; rw [← List.take_append_drop k P, List.flatMap_append]
  simp only [List.length_append]
  omega
/-- What Counts tells: how often each used id is held. -/
def cntU (P : List Sl) (l : List Int) : List Int := cntL (l.filter (usedB P)) P.length
theorem cntU_len (P : List Sl) (l : List Int) : (cntU P l).length = P.length := cntL_len _ _
theorem cntU_get {P : List Sl} {l : List Int} {i : Nat} (h : (atP P i).used = true) : (cntU P l)[i]'(by rw [cntU_len]; exact used_lt h) = ((l.count (i : Int) : Nat) : Int) := by
  unfold cntU
  rw [cntL_get (used_lt h), List.count_filter (by rw [usedB_nat]; exact h)]

end Go.Proofs.Ytlgangcldlphnaa
