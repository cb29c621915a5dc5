/-
  Plain: what is read of bytes, of their beginnings, and of more bytes. No program. Plain: how long the bytes of nodes are; nodes with few bytes are small. No program.
-/
import Derived.Test.YtmbfghbhajmpiaaGreatY6
import Derived.Test.YtmbfghbhajmpiaaGreatYDA
namespace Go.Proofs.YtmbfghbhajmpiaaGreat
set_option linter.unusedVariables false

theorem numP_small4 (t : RS) : (numP 4 t).1 < 4294967296 := numF_small 4 t (by omega)
theorem nodeR_few (s : RS) : FewN (nodeR s).1 := by
  unfold nodeR FewN
  simp only
  split
  · have h1 := listP_le pairR (numP 4 (numP 1 s).2).1 [] (numP 4 (numP 1 s).2).2
    have h2 := numP_small4 (numP 1 s).2
    simp only [List.length_nil] at h1 ⊢
    omega
  split
  · unfold innerR
    simp only
    split
    · simp [noNd]
    · have h1 := listP_le num4 (numP 4 (numP 1 s).2).1 [] (numP 4 (numP 1 s).2).2
      have h2 := numP_small4 (numP 1 s).2
      refine ⟨by simp, by simp only [List.length_nil] at h1; show (listP num4 _ [] _).1.length < _; omega, ?_⟩
      refine Nat.lt_of_le_of_lt (listP_le msgR _ [] _) ?_
      rw [List.length_nil, Nat.zero_add]
      exact numP_small4 _
  · simp [noNd]
theorem nodeR_piv (s : RS) : (nodeR s).1.pivots.all textFB = true := by
  unfold nodeR
  simp only
  split
  · rfl
  split
  · unfold innerR
    simp only
    split
    · rfl
    · rw [List.all_eq_true]
      exact listP_mem (p := fun x => textFB x = true) (fun s => by unfold textFB; rw [decide_eq_true_eq]; exact textP_short s) _ [] _ (fun x hx => by cases hx)
  · rfl
theorem parseN_all {b : Bs} {n : Nd} (h : parseN b = some n) : validN n ([], []) = true ∧ n.pivots.all textFB = true ∧ FewN n ∧ bytesNd n = b := by
  obtain ⟨h1, h2, h3⟩ := parseN_some h
  have e : n = (nodeR (b, false)).1 := by rw [h3]
  exact ⟨h1, by rw [e]; exact nodeR_piv _, by rw [e]; exact nodeR_few _, h2⟩
theorem bytesNd_inj {n m : Nd} (hv : validN n ([], []) = true) (hp : n.pivots.all textFB = true) (hf : FewN n) (hv' : validN m ([], []) = true) (hp' : m.pivots.all textFB = true) (hf' : FewN m) : bytesNd n = bytesNd m ↔ n = m := by
  refine ⟨fun h => ?_, fun h => by rw [h]⟩
  have h1 := parseN_bytes n hv hp hf
  rw [h, parseN_bytes m hv' hp' hf'] at h1
  injection h1 with h1
  exact h1.symm

end Go.Proofs.YtmbfghbhajmpiaaGreat
namespace Go.Proofs.YtmbfghbhajmpiaaGreat
set_option linter.unusedVariables false

theorem flat_ge {α : Type} (f : α → Bs) (c : Nat) (l : List α) (h : ∀ x ∈ l, c ≤ (f x).length) : l.length * c ≤ (l.flatMap f).length := by
  induction l with
  | nil => simp
  | cons a r ih =>
    have h1 := h a (by simp)
    have h2 := ih (fun x hx => h x (by simp [hx]))
    rw [List.length_cons, List.flatMap_cons, List.length_append, Nat.add_mul]
    omega
theorem bytesM_ge {m : Ms} (h : validM m = true) : 3 ≤ (bytesM m).length := by
  unfold bytesM
  rw [if_pos h]
  rcases kind_cases m h with e | e | e | e | e | e <;>
  · simp [fieldsT, fieldsN, e, textB_len, bytesN_len]
    try omega
theorem bytesM_made (a b c d e f : Nat) : (bytesM (madeM a b c d e f)).length ≤ 100 := by
  have k1 := key_len b
  have k3 := val_len c
  have p1 := path_len b
  have p2 := to_len b d
  have s1 := span_small b d e
  unfold bytesM
  rw [if_pos (made_valid a b c d e f)]
  unfold madeM
  repeat' split
  all_goals
    simp [fieldsT, fieldsN, textB_len, bytesN_len]
    try omega
theorem pairY_made (y : Rw) : (pairY (T4.prS y)).length ≤ 40 := by
  have h1 := T4.keyS_len y.1
  have h3 : (T4.valL.getD (y.2.1 % 4) []).length ≤ 3 := T4.getD_len (by decide) _
  unfold pairY
  rw [List.length_append, List.length_append, textB_len, textB_len, bytesN_len]
  show 2 + (T4.keyS y.1).length + (2 + (T4.valL.getD (y.2.1 % 4) []).length) + 4 ≤ 40
  omega
theorem bytesQ_short (x : Rq) (hx : SmallQ x) : (bytesNd (madeQ x)).length ≤ 3000 := by
  have hz := madeQ_small x
  by_cases h : x.kids = []
  · have hk := (made_kids x).2 h
    rw [bytesNd_leaf (madeQ_valid x hx) hk]
    unfold leafY
    have hl := flat_lenG pairY 40 (madeQ x).pairs (fun p hp => by
      rw [made_leaf h] at hp
      obtain ⟨y, _, rfl⟩ := T4.foldR_mem hp
      exact pairY_made y)
    have := Nat.mul_le_mul_right 40 hz.1
    simp only [List.length_append, bytesN_len, List.length_cons, List.length_nil]
    omega
  · have hk : (madeQ x).kids ≠ [] := fun e => h ((made_kids x).1 e)
    rw [bytesNd_inner (madeQ_valid x hx) (madeQ_piv x) hk]
    unfold innerY
    have h1 := flat_lenG kidY 4 (madeQ x).kids (fun p _ => Nat.le_of_eq (kidY_len p))
    have h2 := flat_lenG textB 22 (madeQ x).pivots (fun p hp => by
      rw [made_inner h] at hp
      have := pivsQ_short x p hp
      rw [textB_len]; omega)
    have h3 := flat_lenG sumY 32 (madeQ x).sums (fun p _ => Nat.le_of_eq (sumY_len p))
    have h4 := flat_lenG bytesM 100 (madeQ x).buf (fun p hp => by
      rw [made_inner h] at hp
      obtain ⟨y, _, rfl⟩ := List.mem_map.1 hp
      exact bytesM_made _ _ _ _ _ _)
    have g1 := Nat.mul_le_mul_right 4 hz.2.1
    have g2 := Nat.mul_le_mul_right 22 hz.2.2.1
    have g3 := Nat.mul_le_mul_right 32 hz.2.2.2.1
    have g4 := Nat.mul_le_mul_right 100 hz.2.2.2.2
    simp only [List.length_append, bytesN_len, List.length_cons, List.length_nil]
    omega
theorem small_of_bytes (n : Nd) (hv : validN n ([], []) = true) (hp : n.pivots.all textFB = true) (hl : (bytesNd n).length ≤ 3000) : SmallN n := by
  by_cases hk : n.kids = []
  · rw [bytesNd_leaf hv hk] at hl
    obtain ⟨h1, h2, h3, h4, h5⟩ := valid_leaf hv hk
    unfold leafY at hl
    have g1 := flat_ge pairY 1 n.pairs (fun p _ => by
      unfold pairY
      rw [List.length_append, List.length_append, textB_len, textB_len, bytesN_len]; omega)
    simp only [List.length_append, bytesN_len, List.length_cons, List.length_nil] at hl
    unfold SmallN
    rw [h1, h2, h3, hk]
    simp only [List.length_nil]
    omega
  · rw [bytesNd_inner hv hp hk] at hl
    obtain ⟨h1, h2, h3, h4, h5, h6, h7⟩ := valid_inner hv hk
    unfold innerY at hl
    have g1 := flat_ge kidY 4 n.kids (fun p _ => Nat.le_of_eq (kidY_len p).symm)
    have g4 := flat_ge bytesM 3 n.buf (fun p hp' => by
      have := h7 p hp'
      unfold bufB at this
      rw [Bool.and_eq_true] at this
      exact bytesM_ge this.1)
    simp only [List.length_append, bytesN_len, List.length_cons, List.length_nil] at hl
    unfold SmallN
    rw [h1]
    simp only [List.length_nil]
    omega

end Go.Proofs.YtmbfghbhajmpiaaGreat
