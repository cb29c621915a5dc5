/-
  Plain facts for SpanParts: which part has a key.
-/
import Derived.Test.YtenhjpopdmiekaaZX5
import Derived.Test.YtenhjpopdmiekaaZW9
namespace Go.Proofs.Ytenhjpopdmiekaa
open Go.RowKit Go.Sort
set_option linter.unusedVariables false

theorem part_has (s : Sp) (lo p k : Bs) : hasB (meetS s (lo, p)) k = (hasB s k && (!Op.bytesLess k lo && (p.isEmpty || Op.bytesLess k p))) := meet_hasB s (lo, p) k
theorem parts_low (s : Sp) (k : Bs) : ∀ (ps : List Bs) (lo : Bs), SrtP ps → (∀ q ∈ ps, Op.bytesLess lo q = true) → Op.bytesLess k lo = true → ∀ t ∈ partsF s lo ps, hasB t k = false
  | [], lo, _, _, h, t, ht => by
    rw [partsF, List.mem_singleton] at ht
    subst ht
    rw [part_has, h]; simp
  | p :: r, lo, hs, hlo, h, t, ht => by
    rw [partsF] at ht
    rcases List.mem_cons.1 ht with rfl | ht
    · rw [part_has, h]; simp
    · exact parts_low s k r p hs.2.2 hs.2.1 (less_trans _ _ _ h (hlo p (by simp))) t ht
/-- Where a key stands among pivots. -/
def AtP (k : Bs) (ps : List Bs) (a : Nat) : Prop := a ≤ ps.length ∧ (∀ j (h : j < ps.length), j < a → Op.bytesLess k ps[j] = false) ∧ ∀ h : a < ps.length, Op.bytesLess k ps[a] = true
theorem parts_at (s : Sp) (k : Bs) : ∀ (ps : List Bs) (lo : Bs) (a : Nat), SrtP ps → Op.bytesLess k lo = false → AtP k ps a → ∀ i (h : i < (partsF s lo ps).length), hasB (partsF s lo ps)[i] k = (decide (i = a) && hasB s k)
  | [], lo, a, _, hlo, ha, i, h => by
    have h0 : a = 0 := by have := ha.1; simpa using this
    have hi : i = 0 := by rw [partsF_len] at h; simpa using h
    subst h0 hi
    show hasB (meetS s (lo, [])) k = _
    rw [part_has, hlo]; simp
  | p :: r, lo, a, hs, hlo, ha, i, h => by
    have hp : p.isEmpty = false := by simpa using hs.1
    cases a with
    | zero =>
      have hk : Op.bytesLess k p = true := ha.2.2 (by simp)
      cases i with
      | zero =>
        show hasB (meetS s (lo, p)) k = _
        rw [part_has, hlo, hk]; simp
      | succ i =>
        have hm : (partsF s lo (p :: r))[i + 1] ∈ partsF s p r := by
          show (partsF s p r)[i]'(by simpa [partsF] using h) ∈ _
          exact List.getElem_mem _
        rw [parts_low s k r p hs.2.2 hs.2.1 hk _ hm]; simp
    | succ a =>
      have hk : Op.bytesLess k p = false := ha.2.1 0 (by simp) (by omega)
      cases i with
      | zero =>
        show hasB (meetS s (lo, p)) k = _
        rw [part_has, hlo, hk, hp]; simp
      | succ i =>
        have ih := parts_at s k r p a hs.2.2 hk ⟨by have := ha.1; simpa using this, fun j hj hja => ha.2.1 (j + 1) (by simpa using hj) (by omega), fun h => ha.2.2 (by simpa using h)⟩ i (by simpa [partsF] using h)
        show hasB ((partsF s p r)[i]'(by simpa [partsF] using h)) k = _
        rw [ih]; simp
theorem parts_in (s : Sp) (k : Bs) : ∀ (ps : List Bs) (lo : Bs), SrtP ps → Op.bytesLess k lo = false → inB (partsF s lo ps) k = hasB s k
  | [], lo, _, hlo => by
    show (hasB (meetS s (lo, [])) k || false) = _
    rw [part_has, hlo]; simp
  | p :: r, lo, hs, hlo => by
    have hp : p.isEmpty = false := by simpa using hs.1
    show (hasB (meetS s (lo, p)) k || inB (partsF s p r) k) = _
    rw [part_has, hlo]
    cases hk : Op.bytesLess k p with
    | false => rw [parts_in s k r p hs.2.2 hk, hp]; simp
    | true =>
      have : inB (partsF s p r) k = false := by
        unfold inB
        rw [List.any_eq_false]
        intro t ht
        rw [parts_low s k r p hs.2.2 hs.2.1 hk t ht]; simp
      rw [this]; simp
theorem parts_norm (s : Sp) (ps : List Bs) (h : SrtP ps) : normS (partsF s [] ps) = normS [s] := by
  refine norm_of (norm_nrm [s]) fun k => ?_
  rw [norm_in, ← inB_iff, ← inB_iff, parts_in s k ps [] h (less_nil k)]
  simp [inB]

end Go.Proofs.Ytenhjpopdmiekaa
