/-
  Plain facts on pivots and on the parts of a span between them. No program.
-/
import Derived.Test.YthpajecigkfajaaPL
namespace Go.Proofs.Ythpajecigkfajaa
set_option linter.unusedVariables false

/-- A text put in its place among pivots. -/
def insP (x : Bs) : Bool → List Bs → List Bs
  | d, [] => if d then [] else [x]
  | d, p :: r => if !d && !Op.bytesLess p x then (if Op.bytesLess x p then [x] else []) ++ p :: insP x true r else p :: insP x d r
def pivF (out : List Bs) : List Bs → List Bs
  | [] => out
  | x :: r => pivF (insP x x.isEmpty out) r
/-- Pivots in order, none empty. -/
def SrtP : List Bs → Prop
  | [] => True
  | p :: r => p ≠ [] ∧ (∀ q ∈ r, Op.bytesLess p q = true) ∧ SrtP r
theorem insP_done (x : Bs) : ∀ l, insP x true l = l
  | [] => rfl
  | p :: r => by rw [insP, insP_done x r]; rfl
theorem insP_mem (x : Bs) : ∀ d l y, y ∈ insP x d l → y = x ∨ y ∈ l
  | d, [], y, h => by cases d <;> simp [insP] at h; exact .inl h
  | d, p :: r, y, h => by
    rw [insP] at h
    split at h
    · rw [insP_done] at h
      rcases List.mem_append.1 h with h | h
      · split at h
        · exact .inl (by simpa using h)
        · cases h
      · exact .inr h
    · rcases List.mem_cons.1 h with rfl | h
      · exact .inr (by simp)
      · rcases insP_mem x d r y h with h | h
        · exact .inl h
        · exact .inr (by simp [h])
theorem insP_srt (x : Bs) : ∀ d l, (d = false → x ≠ []) → SrtP l → SrtP (insP x d l)
  | d, [], hx, _ => by cases d <;> simp [insP, SrtP]; exact hx rfl
  | d, p :: r, hx, h => by
    rw [insP]
    split
    · rename_i hc
      rw [insP_done]
      simp only [Bool.and_eq_true, Bool.not_eq_true'] at hc
      split
      · rename_i hlt
        refine ⟨hx hc.1, fun q hq => ?_, h⟩
        rcases List.mem_cons.1 hq with rfl | hq
        · exact hlt
        · exact less_trans _ _ _ hlt (h.2.1 q hq)
      · exact h
    · rename_i hc
      refine ⟨h.1, fun q hq => ?_, insP_srt x d r hx h.2.2⟩
      cases d with
      | true => rw [insP_done] at hq; exact h.2.1 q hq
      | false =>
        simp only [Bool.not_false, Bool.true_and, Bool.not_eq_true', Bool.not_eq_false] at hc
        rcases insP_mem x _ r q hq with rfl | hq
        · exact hc
        · exact h.2.1 q hq
theorem insP_len (x : Bs) : ∀ d l, (insP x d l).length ≤ l.length + 1
  | d, [] => by cases d <;> simp [insP]
  | d, p :: r => by
    rw [insP]
    split
    · rw [insP_done]; split <;> simp
    · have := insP_len x d r
      simp; omega
theorem pivF_srt : ∀ l out, SrtP out → SrtP (pivF out l)
  | [], _, h => h
  | x :: r, out, h => pivF_srt r _ (insP_srt x _ _ (fun he => by simpa using he) h)
theorem pivF_len : ∀ l out, (pivF out l).length ≤ out.length + l.length
  | [], _ => by simp [pivF]
  | x :: r, out => by
    have h1 := pivF_len r (insP x x.isEmpty out)
    have h2 := insP_len x x.isEmpty out
    simp only [pivF, List.length_cons]; omega
theorem pivF_take (l out : List Bs) (k : Nat) (h : k < l.length) : pivF out (l.take (k + 1)) = insP l[k] l[k].isEmpty (pivF out (l.take k)) := by
  induction l generalizing out k with
  | nil => simp at h
  | cons x r ih =>
    cases k with
    | zero => simp [pivF]
    | succ k => simp only [List.take_succ_cons, pivF, List.getElem_cons_succ]; exact ih _ k (by simpa using h)
theorem insP_app (x : Bs) (d : Bool) (acc out : List Bs) (j : Nat) (h : j < out.length) :
    acc ++ insP x d (out.drop j) = (if !d && !Op.bytesLess out[j] x then (acc ++ (if Op.bytesLess x out[j] then [x] else []) ++ [out[j]]) ++ insP x true (out.drop (j + 1)) else (acc ++ [out[j]]) ++ insP x d (out.drop (j + 1))) := by
  rw [List.drop_eq_getElem_cons h, insP]
  split <;> simp

/-- The parts of a span between pivots, from a key on. -/
def partsF (s : Sp) : Bs → List Bs → List Sp
  | lo, [] => [meetS s (lo, [])]
  | lo, p :: r => meetS s (lo, p) :: partsF s p r
theorem partsF_len (s : Sp) : ∀ lo ps, (partsF s lo ps).length = ps.length + 1
  | _, [] => rfl
  | _, p :: r => by rw [partsF, List.length_cons, partsF_len s p r, List.length_cons]

theorem part_has (s : Sp) (lo p k : Bs) : hasB (meetS s (lo, p)) k = (hasB s k && (!Op.bytesLess k lo && (p.isEmpty || Op.bytesLess k p))) := meet_hasB s (lo, p) k
theorem parts_low (s : Sp) (k : Bs) : ∀ (ps : List Bs) (lo : Bs), SrtP ps → (∀ q ∈ ps, Op.bytesLess lo q = true) → Op.bytesLess k lo = true → ∀ t ∈ partsF s lo ps, hasB t k = false
  | [], lo, _, _, h, t, ht => by
    rw [partsF, List.mem_singleton] at ht
    subst ht
    rw [part_has, h]; simp
  | p :: r, lo, hs, hlo, h, t, ht => by
    rw [partsF] at ht
    rcases List.mem_cons.1 ht with rfl | ht
    · rw [part_has, h]; simp
    · exact parts_low s k r p hs.2.2 hs.2.1 (less_trans _ _ _ h (hlo p (by simp))) t ht
/-- Where a key stands among pivots. -/
def AtP (k : Bs) (ps : List Bs) (a : Nat) : Prop := a ≤ ps.length ∧ (∀ j (h : j < ps.length), j < a → Op.bytesLess k ps[j] = false) ∧ ∀ h : a < ps.length, Op.bytesLess k ps[a] = true
theorem parts_at (s : Sp) (k : Bs) : ∀ (ps : List Bs) (lo : Bs) (a : Nat), SrtP ps → Op.bytesLess k lo = false → AtP k ps a → ∀ i (h : i < (partsF s lo ps).length), hasB (partsF s lo ps)[i] k = (decide (i = a) && hasB s k)
  | [], lo, a, _, hlo, ha, i, h => by
    have h0 : a = 0 := by have := ha.1; simpa using this
    have hi : i = 0 := by rw [partsF_len] at h; simpa using h
    subst h0 hi
    show hasB (meetS s (lo, [])) k = _
    rw [part_has, hlo]; simp
  | p :: r, lo, a, hs, hlo, ha, i, h => by
    have hp : p.isEmpty = false := by simpa using hs.1
    cases a with
    | zero =>
      have hk : Op.bytesLess k p = true := ha.2.2 (by simp)
      cases i with
      | zero =>
        show hasB (meetS s (lo, p)) k = _
        rw [part_has, hlo, hk]; simp
      | succ i =>
        have hm : (partsF s lo (p :: r))[i + 1] ∈ partsF s p r := by
          show (partsF s p r)[i]'(by simpa [partsF] using h) ∈ _
          exact List.getElem_mem _
        rw [parts_low s k r p hs.2.2 hs.2.1 hk _ hm]; simp
    | succ a =>
      have hk : Op.bytesLess k p = false := ha.2.1 0 (by simp) (by omega)
      cases i with
      | zero =>
        show hasB (meetS s (lo, p)) k = _
        rw [part_has, hlo, hk, hp]; simp
      | succ i =>
        have ih := parts_at s k r p a hs.2.2 hk ⟨by have := ha.1; simpa using this, fun j hj hja => ha.2.1 (j + 1) (by simpa using hj) (by omega), fun h => ha.2.2 (by simpa using h)⟩ i (by simpa [partsF] using h)
        show hasB ((partsF s p r)[i]'(by simpa [partsF] using h)) k = _
        rw [ih]; simp
theorem parts_in (s : Sp) (k : Bs) : ∀ (ps : List Bs) (lo : Bs), SrtP ps → Op.bytesLess k lo = false → inB (partsF s lo ps) k = hasB s k
  | [], lo, _, hlo => by
    show (hasB (meetS s (lo, [])) k || false) = _
    rw [part_has, hlo]; simp
  | p :: r, lo, hs, hlo => by
    have hp : p.isEmpty = false := by simpa using hs.1
    show (hasB (meetS s (lo, p)) k || inB (partsF s p r) k) = _
    rw [part_has, hlo]
    cases hk : Op.bytesLess k p with
    | false => rw [parts_in s k r p hs.2.2 hk, hp]; simp
    | true =>
      have : inB (partsF s p r) k = false := by
        unfold inB
        rw [List.any_eq_false]
        intro t ht
        rw [parts_low s k r p hs.2.2 hs.2.1 hk t ht]; simp
      rw [this]; simp
theorem parts_norm (s : Sp) (ps : List Bs) (h : SrtP ps) : normS (partsF s [] ps) = normS [s] := by
  refine norm_of (norm_nrm [s]) fun k => ?_
  rw [norm_in, ← inB_iff, ← inB_iff, parts_in s k ps [] h (less_nil k)]
  simp [inB]

end Go.Proofs.Ythpajecigkfajaa
