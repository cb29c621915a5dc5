/-
  Plain: what is read of bytes, of their beginnings, and of more bytes. No program.
-/
import Derived.Test.YtmbfghbhajmpiaaGreatY6
namespace Go.Proofs.YtmbfghbhajmpiaaGreat
set_option linter.unusedVariables false

theorem numP_small4 (t : RS) : (numP 4 t).1 < 4294967296 := numF_small 4 t (by omega)
theorem nodeR_few (s : RS) : FewN (nodeR s).1 := by
  unfold nodeR FewN
  simp only
  split
  · have h1 := listP_le pairR (numP 4 (numP 1 s).2).1 [] (numP 4 (numP 1 s).2).2
    have h2 := numP_small4 (numP 1 s).2
    simp only [List.length_nil] at h1 ⊢
    omega
  split
  · unfold innerR
    simp only
    split
    · simp [noNd]
    · have h1 := listP_le num4 (numP 4 (numP 1 s).2).1 [] (numP 4 (numP 1 s).2).2
      have h2 := numP_small4 (numP 1 s).2
      refine ⟨by simp, by simp only [List.length_nil] at h1; show (listP num4 _ [] _).1.length < _; omega, ?_⟩
      refine Nat.lt_of_le_of_lt (listP_le msgR _ [] _) ?_
      rw [List.length_nil, Nat.zero_add]
      exact numP_small4 _
  · simp [noNd]
theorem nodeR_piv (s : RS) : (nodeR s).1.pivots.all textFB = true := by
  unfold nodeR
  simp only
  split
  · rfl
  split
  · unfold innerR
    simp only
    split
    · rfl
    · rw [List.all_eq_true]
      exact listP_mem (p := fun x => textFB x = true) (fun s => by unfold textFB; rw [decide_eq_true_eq]; exact textP_short s) _ [] _ (fun x hx => by cases hx)
  · rfl
theorem parseN_all {b : Bs} {n : Nd} (h : parseN b = some n) : validN n ([], []) = true ∧ n.pivots.all textFB = true ∧ FewN n ∧ bytesNd n = b := by
  obtain ⟨h1, h2, h3⟩ := parseN_some h
  have e : n = (nodeR (b, false)).1 := by rw [h3]
  exact ⟨h1, by rw [e]; exact nodeR_piv _, by rw [e]; exact nodeR_few _, h2⟩
theorem parseN_pre (n : Nd) (k : Nat) (hv : validN n ([], []) = true) (hp : n.pivots.all textFB = true) (hf : FewN n) (hk : k < (bytesNd n).length) : parseN ((bytesNd n).take k) = none := by
  cases h : parseN ((bytesNd n).take k) with
  | none => rfl
  | some m =>
    obtain ⟨h1, h2, h3, h4⟩ := parseN_all h
    have hm := parseN_more m ((bytesNd n).drop k) (fun e => by have := congrArg List.length e; rw [List.length_drop, List.length_nil] at this; omega) h1 h2 h3
    rw [h4, List.take_append_drop, parseN_bytes n hv hp hf] at hm
    cases hm
theorem bytesNd_inj {n m : Nd} (hv : validN n ([], []) = true) (hp : n.pivots.all textFB = true) (hf : FewN n) (hv' : validN m ([], []) = true) (hp' : m.pivots.all textFB = true) (hf' : FewN m) : bytesNd n = bytesNd m ↔ n = m := by
  refine ⟨fun h => ?_, fun h => by rw [h]⟩
  have h1 := parseN_bytes n hv hp hf
  rw [h, parseN_bytes m hv' hp' hf'] at h1
  injection h1 with h1
  exact h1.symm

end Go.Proofs.YtmbfghbhajmpiaaGreat
