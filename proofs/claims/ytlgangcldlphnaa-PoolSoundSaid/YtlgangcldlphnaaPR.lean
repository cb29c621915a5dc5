/-
  Lists of numbers: an append in a drawn region, the rest behind the first.
-/
import Derived.Test.YtlgangcldlphnaaPI
namespace Go.Proofs.Ytlgangcldlphnaa
open Go.RowKit Go.Sort
set_option linter.unusedVariables false
set_option maxRecDepth 100000

theorem run_ints (ty : TypeId) {w : World} (base : Nat) (v : Value) (l : List Int) (hown : w.ownsRow base 3 1 v l.length (l.flatMap encI)) (u : Value) (m : List Int) (hp : IsInts w u m) (hl : l.length + m.length ≤ 1000000000) (hbase : base ≤ w.heap.size) :
    ∃ v' w', (Builtin.append_ #[30, 30] ty #[v, u]).run Try.prog w = .ok v' w' ∧ w'.ownsRow base 3 1 v' (l ++ m).length ((l ++ m).flatMap encI) ∧ Below base w w' := by
  obtain ⟨i0, hi, hz0, hz1, hz2⟩ := info_parts infoI
  obtain ⟨p, cap, rfl, hpp⟩ := hp.any
  by_cases hm : m = []
  · subst hm
    refine ⟨v, w, ?_, by simpa using hown, Below.refl _ _⟩
    cases p with
    | none =>
      rcases hown.2 with ⟨rfl, _⟩ | ⟨g, cap', cur, rfl, _, _, hnc, _⟩
      · simp [Builtin.append_, run_underlying Try.underlying30, sizeOf, typeInfo, hi, Builtin.lenOf, Builtin.firstCells]
      · simp [Builtin.append_, run_underlying Try.underlying30, sizeOf, typeInfo, hi, Builtin.lenOf, Builtin.firstCells, hnc, storeCells]
    | some ad =>
      rcases hown.2 with ⟨rfl, _⟩ | ⟨g, cap', cur, rfl, _, _, hnc, _⟩
      · simp [Builtin.append_, run_underlying Try.underlying30, sizeOf, typeInfo, hi, Builtin.lenOf, Builtin.firstCells]
        rfl
      · simp [Builtin.append_, run_underlying Try.underlying30, sizeOf, typeInfo, hi, Builtin.lenOf, Builtin.firstCells, hnc, storeCells, hz1]
        rfl
  · obtain ⟨b, off, rfl, hc⟩ := hpp hm
    have hnews : ∀ j u, (m.flatMap encI)[j]? = some u → w.cell? ((⟨b, off, none⟩ : Addr).add j) = some u := by
      refine cells_at fun j u hj => ?_
      obtain ⟨i, r, hi', rfl, hu⟩ := flat_any encI_len m j u hj
      rw [← Nat.add_assoc]
      exact hc i hi' r u hu
    obtain ⟨v', w', r1, r2, r3, -⟩ := run_append_own (P := Try.prog) w base 30 ty 3 i0 (.int .i64 0) 1 8 Try.underlying30 hi hz0 hz1 hz2 rfl (by decide) v l.length (l.flatMap encI) hown ⟨b, off, none⟩ m.length cap (m.flatMap encI) (flat_lenA encI_len m) hnews (fun u hu => by obtain ⟨y, _, hy⟩ := List.mem_flatMap.1 hu; exact encI_one y u hy) (by unfold maxLen; omega) (by omega) hbase
    exact ⟨v', w', r1, by rw [List.length_append, List.flatMap_append]; exact r2, Below.grown (Below.refl _ _) r3 hbase (fun q hq => (hown.lt q hq).1)⟩
theorem step_ints {ops : Array Oper} {o : Oper} {a : Act} {w : World} {K : Act → World → Prop} {Q : Exit → Act → World → Prop} {E : Prop} (hg : o.guard = none) (s x : Operand)
    (hop : o.op = .call { callee := .builtin .append, args := #[s, x], argTypes := #[30, 30] }) (base : Nat) (v : Value) (l : List Int) (hs : a.eval s = v) (hown : w.ownsRow base 3 1 v l.length (l.flatMap encI))
    (u : Value) (m : List Int) (hx : a.eval x = u) (hp : IsInts w u m) (hl : l.length + m.length ≤ 1000000000) (hbase : base ≤ w.heap.size)
    (hK : ∀ v' w', w'.ownsRow base 3 1 v' (l ++ m).length ((l ++ m).flatMap encI) → Below base w w' → K (a.put o.dst v') w') : if Region.wanted o (yielded ops a.tmps) = true then Oper.wp Try.prog o a w K Q else E := by
  have hw : Region.wanted o (yielded ops a.tmps) = true := by simp [Region.wanted, hg]
  rw [if_pos hw]
  obtain ⟨v', w', hrun, r1, r2⟩ := run_ints o.type base v l hown u m hp hl hbase
  unfold Oper.wp
  simp [execOp, hop, resolve, invoke, builtin, hs, hx, hrun, Result.andThen]
  exact hK v' w' r1 r2
theorem IsInts.set {w : World} {v : Value} {l : List Int} (h : IsInts w v l) (c i : Nat) (u : Value) (hne : blkOf v ≠ some c) : IsInts (w.setCell ⟨c, i, none⟩ u) v l := by
  obtain ⟨a, cap, rfl, h2, h3, h4⟩ := h
  refine ⟨a, cap, rfl, h2, h3, fun hl => ?_⟩
  obtain ⟨b, off, rfl, hlt, hc⟩ := h4 hl
  have hbc : b ≠ c := fun e => hne (by rw [e]; rfl)
  refine ⟨b, off, rfl, by simpa using hlt, fun i hi => ?_⟩
  have := hc i hi
  unfold World.cell? at this ⊢
  rw [Below.heap_setCell _ _ _ _ hbc]; exact this
theorem tail_ints {w : World} {v : Value} {k : Int} {V : List Int} (h : IsInts w v (k :: V)) : ∃ b off cap a1 c1, v = .slice (some ⟨b, off, none⟩) (V.length + 1) cap ∧ V.length + 1 ≤ cap ∧ (cap : Int) ≤ 9223372036854775807 ∧ b < w.heap.size ∧ w.cell? ⟨b, off, none⟩ = some (.int .i64 k) ∧
    (∀ wx : World, (Instr.slice 30 v (some (.int .i64 1)) none none).run Try.prog wx = .ok (.slice a1 V.length c1) wx) ∧ IsInts w (.slice a1 V.length c1) V ∧ (∀ b', blkOf (.slice a1 V.length c1) = some b' → b' = b) := by
  obtain ⟨a, cap, rfl, h2, h3, h4⟩ := h
  obtain ⟨b, off, rfl, hlt, hc⟩ := h4 (by simp)
  rw [List.length_cons] at h2
  have h3' := h3
  unfold maxLen at h3'
  have hadd : ∀ i, (⟨b, off, none⟩ : Addr).add i = ⟨b, off + i, none⟩ := by intro i; unfold Addr.add; split <;> simp_all
  refine ⟨b, off, cap, if cap = 1 then some ⟨b, off, none⟩ else some ⟨b, off + 1, none⟩, cap - 1, rfl, h2, by omega, hlt, by have := hc 0 (by simp); simpa using this, fun wx => ?_, ?_, ?_⟩
  · have e : Try.prog.elem 30 = 3 := by kernel_rfl
    rw [run_slice_l wx 30 (some ⟨b, off, none⟩) (k :: V).length cap (by rw [e]; exact Try.underlying30) .i64 1 (by omega) (by simp; omega), e, Try.sizeOf3]
    simp only [Result.andThen, sliced]
    simp [hadd]
  · refine ⟨_, cap - 1, rfl, by omega, by unfold maxLen; omega, fun hne => ?_⟩
    have hpos : 0 < V.length := List.length_pos_iff.2 hne
    rw [if_neg (by omega)]
    refine ⟨b, off + 1, rfl, hlt, fun i hi => ?_⟩
    have := hc (i + 1) (by simp; omega)
    rw [show off + 1 + i = off + (i + 1) by omega]
    simpa using this
  · intro b' hb
    split at hb <;> (injection hb with hb; exact hb.symm)

end Go.Proofs.Ytlgangcldlphnaa
