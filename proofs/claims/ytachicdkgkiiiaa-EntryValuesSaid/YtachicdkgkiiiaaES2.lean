/-
  Plain facts on entries and their values. No program.
-/
import Derived.Test.YtachicdkgkiiiaaES
namespace Go.Proofs.Ytachicdkgkiiiaa
set_option linter.unusedVariables false

theorem decE_cons {x y : UInt8} {r : Bs} : decE (x :: y :: r) = match readE x.toNat r with
    | some e => if validE { e with kind := x.toNat, owner := y.toNat } = true then ({ e with kind := x.toNat, owner := y.toNat }, 0) else (Ent.zero, 30)
    | none => (Ent.zero, 30) := rfl

theorem u8_toNat (x : UInt8) : ((x.toNat : Int)).toNat.toUInt8 = x := by simp

/-- What is read has the value. -/
theorem readE_tail {x y : UInt8} {r : Bs} {e : Ent} (h : readE x.toNat r = some e) : tailE { e with kind := x.toNat, owner := y.toNat } = r := by
  unfold readE at h
  by_cases h1 : x.toNat = 1
  · rw [if_pos h1] at h
    by_cases hr : r = []
    · subst hr; simp at h; subst h; unfold tailE; simp [h1]
    · rw [if_neg hr] at h; cases h
  · rw [if_neg h1] at h
    by_cases h2 : x.toNat = 2
    · rw [if_pos h2] at h
      by_cases hr : r.length = 4
      · rw [if_pos hr] at h
        simp only [Option.some.injEq] at h
        subst h
        unfold tailE
        simp only [h2]
        rw [if_pos (by rfl)]
        have e1 := bytesN_numF (r.take 2)
        have e2 := bytesN_numF (r.drop 2)
        rw [show (r.take 2).length = 2 from by simp; omega] at e1
        rw [show (r.drop 2).length = 2 from by simp; omega] at e2
        simp only [Int.toNat_natCast]
        rw [e1, e2, List.take_append_drop]
      · rw [if_neg hr] at h; cases h
    · rw [if_neg h2] at h
      by_cases h3 : x.toNat = 3
      · rw [if_pos h3] at h
        simp only [Option.some.injEq] at h
        subst h
        unfold tailE
        simp [h3]
      · rw [if_neg h3] at h
        by_cases h4 : x.toNat = 4
        · rw [if_pos h4] at h
          by_cases hr : r.length = 4
          · rw [if_pos hr] at h
            simp only [Option.some.injEq] at h
            subst h
            unfold tailE
            simp only [h4, Int.toNat_natCast]
            have e1 := bytesN_numF r
            rw [hr] at e1
            simpa using e1
          · rw [if_neg hr] at h; cases h
        · rw [if_neg h4] at h; cases h

theorem decE_cases (v : Bs) : decE v = (Ent.zero, 30) ∨ ∃ e, decE v = (e, 0) ∧ validE e = true ∧ valueE e = v := by
  match v with
  | [] => exact .inl rfl
  | [_] => exact .inl rfl
  | x :: y :: r =>
    rw [decE_cons]
    cases hr : readE x.toNat r with
    | none => exact .inl rfl
    | some e =>
      simp only
      cases hv : validE { e with kind := x.toNat, owner := y.toNat } with
      | false => exact .inl (by simp)
      | true =>
        refine .inr ⟨_, by simp, hv, ?_⟩
        unfold valueE
        rw [readE_tail hr]
        simp

end Go.Proofs.Ytachicdkgkiiiaa
