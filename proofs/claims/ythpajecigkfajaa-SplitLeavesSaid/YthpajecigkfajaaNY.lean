/-
  Plain facts: a message is read from its bytes, whatever follows; each beginning of them is too short.
-/
import Derived.Test.YthpajecigkfajaaNO
import Derived.Test.YthpajecigkfajaaMQ
namespace Go.Proofs.Ythpajecigkfajaa
set_option linter.unusedVariables false

theorem takeP_app (x r : Bs) (f : Bool) : takeP x.length (x ++ r, f) = (x, (r, f)) := by
  unfold takeP
  rw [if_neg (by simp)]
  simp
theorem takeP_app' (k : Nat) (x r : Bs) (f : Bool) (h : x.length = k) : takeP k (x ++ r, f) = (x, (r, f)) := by subst h; exact takeP_app x r f
theorem numP_app (k n : Nat) (r : Bs) (f : Bool) (h : n < 256 ^ k) : numP k (bytesN k n ++ r, f) = (n, (r, f)) := by
  unfold numP
  rw [takeP_app' k _ _ _ (bytesN_len k n)]
  simp only [numF_bytesN]
  rw [Nat.mod_eq_of_lt h]
theorem textP_app (t r : Bs) (f : Bool) (h : t.length ≤ 65535) : textP (textB t ++ r, f) = (t, (r, f)) := by
  unfold textP textB
  rw [List.append_assoc, numP_app 2 t.length _ f (by omega)]
  exact takeP_app t r f
theorem fields_zero {m : Ms} (h : bareM m = zeroM m.kind) : m =
    (if m.kind = 1 then { zeroM m.kind with key := m.key, val := m.val, n := m.n }
     else if m.kind = 2 then { zeroM m.kind with key := m.key }
     else if m.kind = 3 then { zeroM m.kind with lo := m.lo, hi := m.hi }
     else if m.kind = 4 then { zeroM m.kind with src := m.src, dst := m.dst }
     else if m.kind = 5 then { zeroM m.kind with src := m.src, dst := m.dst }
     else if m.kind = 6 then { zeroM m.kind with lo := m.lo, hi := m.hi, n := m.n }
     else zeroM m.kind) := by
  obtain ⟨k, a, b, c, d, e, f, n⟩ := m
  unfold bareM zeroM at *
  simp only at *
  split
  · rename_i h1; simp [h1] at h; simp [h]
  split
  · rename_i h1 h2; simp [h2] at h; simp [h]
  split
  · rename_i h1 h2 h3; simp [h3] at h; simp [h]
  split
  · rename_i h1 h2 h3 h4; simp [h4] at h; simp [h]
  split
  · rename_i h1 h2 h3 h4 h5; simp [h5] at h; simp [h]
  split
  · rename_i h1 h2 h3 h4 h5 h6; simp [h6] at h; simp [h]
  · rename_i h1 h2 h3 h4 h5 h6; simp [h1, h2, h3, h4, h5, h6] at h; simp [h]
theorem restM_app (m : Ms) (r : Bs) (hv : validM m = true) : restM m.kind ((fieldsT m).flatMap textB ++ (fieldsN m).flatMap (fun n => bytesN 4 n.toNat) ++ r, false) = (m, (r, false)) := by
  obtain ⟨hs, hn, -, -⟩ := valid_small hv
  have hz := fields_zero (valid_bare hv)
  unfold fieldsT at hs ⊢
  unfold fieldsN at hn ⊢
  unfold restM
  rcases kind_cases m hv with h1 | h1 | h1 | h1 | h1 | h1
  · simp [h1] at hs hn hz ⊢
    rw [textP_app _ _ _ (by omega), textP_app _ _ _ (by omega), numP_app 4 m.n.toNat r false (by omega)]
    refine ⟨?_, rfl⟩
    conv => rhs; rw [hz]
    simp only [Ms.mk.injEq, true_and, zeroM]
    omega
  · simp [h1] at hs hn hz ⊢
    rw [textP_app _ _ _ (by omega)]
    exact ⟨hz.symm, rfl⟩
  · simp [h1] at hs hn hz ⊢
    rw [textP_app _ _ _ (by omega), textP_app _ _ _ (by omega)]
    exact ⟨hz.symm, rfl⟩
  · simp [h1] at hs hn hz ⊢
    rw [textP_app _ _ _ (by omega), textP_app _ _ _ (by omega)]
    exact ⟨hz.symm, rfl⟩
  · simp [h1] at hs hn hz ⊢
    rw [textP_app _ _ _ (by omega), textP_app _ _ _ (by omega)]
    exact ⟨hz.symm, rfl⟩
  · simp [h1] at hs hn hz ⊢
    rw [textP_app _ _ _ (by omega), textP_app _ _ _ (by omega), numP_app 4 m.n.toNat r false (by omega)]
    refine ⟨?_, rfl⟩
    conv => rhs; rw [hz]
    simp only [Ms.mk.injEq, true_and, zeroM]
    omega
theorem kind_nat {m : Ms} (hv : validM m = true) : ((m.kind.toNat : Nat) : Int) = m.kind ∧ m.kind.toNat < 256 := by
  have := kind_cases m hv; omega
/-- A message is read from its bytes. -/
theorem parse_app (m : Ms) (r : Bs) (hv : validM m = true) : parseS (bytesM m ++ r) = some (m, (bytesM m).length) := by
  obtain ⟨hk, hk2⟩ := kind_nat hv
  have hb : bytesM m = bytesN 1 m.kind.toNat ++ ((fieldsT m).flatMap textB ++ (fieldsN m).flatMap (fun n => bytesN 4 n.toNat)) := by unfold bytesM; rw [if_pos hv, List.append_assoc]
  have h1 : numP 1 (bytesM m ++ r, false) = (m.kind.toNat, ((fieldsT m).flatMap textB ++ (fieldsN m).flatMap (fun n => bytesN 4 n.toNat) ++ r, false)) := by
    rw [hb, List.append_assoc]; exact numP_app 1 _ _ _ (by omega)
  unfold parseS
  rw [h1]
  simp only [hk]
  rw [restM_app m r hv]
  simp [hv]

theorem takeP_flag (k : Nat) (s : RS) (h : s.2 = true) : (takeP k s).2.2 = true := by
  unfold takeP; split
  · rfl
  · exact h
theorem takeP_ext (k : Nat) (s : RS) (r : Bs) (h : (takeP k s).2.2 = false) : takeP k (s.1 ++ r, s.2) = ((takeP k s).1, ((takeP k s).2.1 ++ r, (takeP k s).2.2)) := by
  unfold takeP at h ⊢
  by_cases hl : s.1.length < k
  · rw [if_pos hl] at h; cases h
  · rw [if_neg hl]
    rw [if_neg (by simp; omega)]
    simp only
    rw [List.take_append_of_le_length (by omega), List.drop_append_of_le_length (by omega)]
theorem numP_flag (k : Nat) (s : RS) (h : s.2 = true) : (numP k s).2.2 = true := takeP_flag k s h
theorem numP_ext (k : Nat) (s : RS) (r : Bs) (h : (numP k s).2.2 = false) : numP k (s.1 ++ r, s.2) = ((numP k s).1, ((numP k s).2.1 ++ r, (numP k s).2.2)) := by
  unfold numP at h ⊢
  rw [takeP_ext k s r h]
theorem textP_flag (s : RS) (h : s.2 = true) : (textP s).2.2 = true := takeP_flag _ _ (numP_flag 2 s h)
theorem textP_ext (s : RS) (r : Bs) (h : (textP s).2.2 = false) : textP (s.1 ++ r, s.2) = ((textP s).1, ((textP s).2.1 ++ r, (textP s).2.2)) := by
  have h1 : (numP 2 s).2.2 = false := by
    cases e : (numP 2 s).2.2 with
    | false => rfl
    | true => have := takeP_flag (numP 2 s).1 (numP 2 s).2 e; unfold textP at h; rw [this] at h; cases h
  unfold textP at h ⊢
  rw [numP_ext 2 s r h1]
  exact takeP_ext _ (numP 2 s).2 r h
theorem restM_flag (k : Int) (s : RS) (h : s.2 = true) : (restM k s).2.2 = true := by
  have h1 := textP_flag s h
  obtain ⟨a, ha⟩ : ∃ a, textP s = a := ⟨_, rfl⟩
  rw [ha] at h1
  have h2 := textP_flag _ h1
  obtain ⟨b, hb⟩ : ∃ b, textP a.2 = b := ⟨_, rfl⟩
  rw [hb] at h2
  have h3 := numP_flag 4 _ h2
  obtain ⟨n, hn⟩ : ∃ n, numP 4 b.2 = n := ⟨_, rfl⟩
  rw [hn] at h3
  unfold restM
  simp only [ha, hb, hn]
  clear ha hb hn
  by_cases k1 : k = 1
  · rw [if_pos k1]; exact h3
  by_cases k2 : k = 2
  · rw [if_neg k1, if_pos k2]; exact h1
  by_cases k3 : k = 3
  · rw [if_neg k1, if_neg k2, if_pos k3]; exact h2
  by_cases k4 : k = 4
  · rw [if_neg k1, if_neg k2, if_neg k3, if_pos k4]; exact h2
  by_cases k5 : k = 5
  · rw [if_neg k1, if_neg k2, if_neg k3, if_neg k4, if_pos k5]; exact h2
  by_cases k6 : k = 6
  · rw [if_neg k1, if_neg k2, if_neg k3, if_neg k4, if_neg k5, if_pos k6]; exact h3
  · rw [if_neg k1, if_neg k2, if_neg k3, if_neg k4, if_neg k5, if_neg k6]; exact h
theorem restM_ext (k : Int) (s : RS) (r : Bs) (h : (restM k s).2.2 = false) : restM k (s.1 ++ r, s.2) = ((restM k s).1, ((restM k s).2.1 ++ r, (restM k s).2.2)) := by
  obtain ⟨a, ha⟩ : ∃ a, textP s = a := ⟨_, rfl⟩
  obtain ⟨b, hb⟩ : ∃ b, textP a.2 = b := ⟨_, rfl⟩
  obtain ⟨n, hn⟩ : ∃ n, numP 4 b.2 = n := ⟨_, rfl⟩
  have A : a.2.2 = false → textP (s.1 ++ r, s.2) = (a.1, (a.2.1 ++ r, a.2.2)) := fun e => by rw [← ha] at e ⊢; exact textP_ext s r e
  have B : b.2.2 = false → textP (a.2.1 ++ r, a.2.2) = (b.1, (b.2.1 ++ r, b.2.2)) := fun e => by rw [← hb] at e ⊢; exact textP_ext a.2 r e
  have C : n.2.2 = false → numP 4 (b.2.1 ++ r, b.2.2) = (n.1, (n.2.1 ++ r, n.2.2)) := fun e => by rw [← hn] at e ⊢; exact numP_ext 4 b.2 r e
  have f1 : b.2.2 = false → a.2.2 = false := fun e => by
    cases e2 : a.2.2 with
    | false => rfl
    | true => have := textP_flag a.2 e2; rw [hb, e] at this; cases this
  have f2 : n.2.2 = false → b.2.2 = false := fun e => by
    cases e2 : b.2.2 with
    | false => rfl
    | true => have := numP_flag 4 b.2 e2; rw [hn, e] at this; cases this
  unfold restM at h ⊢
  simp only [ha, hb, hn] at h ⊢
  clear ha hb hn
  by_cases k1 : k = 1
  · simp only [if_pos k1] at h ⊢
    simp only [A (f1 (f2 h)), B (f2 h), C h]
  by_cases k2 : k = 2
  · simp only [if_neg k1, if_pos k2] at h ⊢
    simp only [A h]
  by_cases k3 : k = 3
  · simp only [if_neg k1, if_neg k2, if_pos k3] at h ⊢
    simp only [A (f1 h), B h]
  by_cases k4 : k = 4
  · simp only [if_neg k1, if_neg k2, if_neg k3, if_pos k4] at h ⊢
    simp only [A (f1 h), B h]
  by_cases k5 : k = 5
  · simp only [if_neg k1, if_neg k2, if_neg k3, if_neg k4, if_pos k5] at h ⊢
    simp only [A (f1 h), B h]
  by_cases k6 : k = 6
  · simp only [if_neg k1, if_neg k2, if_neg k3, if_neg k4, if_neg k5, if_pos k6] at h ⊢
    simp only [A (f1 (f2 h)), B (f2 h), C h]
  · simp only [if_neg k1, if_neg k2, if_neg k3, if_neg k4, if_neg k5, if_neg k6] at h ⊢
/-- Each beginning of a message's bytes is refused. -/
theorem parse_short (m : Ms) (hv : validM m = true) (i : Nat) (hi : i < (bytesM m).length) : parseS ((bytesM m).take i) = none := by
  unfold parseS
  simp only
  rw [if_pos]
  refine .inl ?_
  cases e : (restM ((numP 1 ((bytesM m).take i, false)).1 : Nat) (numP 1 ((bytesM m).take i, false)).2).2.2 with
  | true => rfl
  | false =>
    exfalso
    have e1 : (numP 1 ((bytesM m).take i, false)).2.2 = false := by
      cases e2 : (numP 1 ((bytesM m).take i, false)).2.2 with
      | false => rfl
      | true => rw [restM_flag _ _ e2] at e; cases e
    have h1 := numP_ext 1 ((bytesM m).take i, false) ((bytesM m).drop i) e1
    have h2 := restM_ext _ _ ((bytesM m).drop i) e
    simp only [List.take_append_drop] at h1
    have hp := parse_app m [] hv
    rw [List.append_nil] at hp
    unfold parseS at hp
    simp only at hp
    rw [h1] at hp
    simp only at hp
    rw [e1] at hp h2
    rw [show ((numP 1 ((bytesM m).take i, false)).2.1 ++ (bytesM m).drop i, false) = ((numP 1 ((bytesM m).take i, false)).2.1 ++ (bytesM m).drop i, (numP 1 ((bytesM m).take i, false)).2.2) from by rw [e1]] at hp
    rw [e1, h2] at hp
    simp only at hp
    split at hp
    · cases hp
    · have h3 := congrArg (fun z => z.map Prod.snd) hp
      simp only [Option.map_some, Option.some.injEq] at h3
      have hd : 0 < ((bytesM m).drop i).length := by rw [List.length_drop]; omega
      rw [List.length_append] at h3
      omega
theorem bytes_inj {m o : Ms} (hm : validM m = true) (ho : validM o = true) (h : bytesM m = bytesM o) : m = o := by
  have h1 := parse_app m [] hm
  have h2 := parse_app o [] ho
  rw [h, h2] at h1
  simp at h1
  exact h1.symm
theorem flat_small (l : List Bs) (K : Nat) (h : ∀ s ∈ l, s.length ≤ K) : (l.flatMap textB).length ≤ l.length * (K + 2) := by
  induction l with
  | nil => simp
  | cons x l ih =>
    have h1 := h x (by simp)
    have h2 := ih (fun s hs => h s (by simp [hs]))
    rw [List.flatMap_cons, List.length_append, List.length_cons, Nat.succ_mul]
    have h3 : (textB x).length = 2 + x.length := by unfold textB; rw [List.length_append, bytesN_len]
    omega
theorem made_texts (a b c d e f : Nat) : (madeM a b c d e f).key.length ≤ 10 ∧ (madeM a b c d e f).val.length ≤ 10 ∧ (madeM a b c d e f).lo.length ≤ 10 ∧ (madeM a b c d e f).hi.length ≤ 10 ∧ (madeM a b c d e f).src.length ≤ 10 ∧ (madeM a b c d e f).dst.length ≤ 10 := by
  have k1 := key_len b
  have v1 := val_len c
  have s1 := span_small b d e
  have p1 := path_len b
  have t1 := to_len b d
  unfold madeM
  split
  · simp; omega
  split
  · simp; omega
  split
  · simp; omega
  split
  · simp; omega
  split
  · simp; omega
  · simp; omega
theorem fieldsT_small (m : Ms) (K : Nat) (h : m.key.length ≤ K ∧ m.val.length ≤ K ∧ m.lo.length ≤ K ∧ m.hi.length ≤ K ∧ m.src.length ≤ K ∧ m.dst.length ≤ K) : ∀ s ∈ fieldsT m, s.length ≤ K := by
  intro s hs
  unfold fieldsT at hs
  split at hs
  · simp at hs; rcases hs with rfl | rfl <;> omega
  split at hs
  · simp at hs; subst hs; omega
  split at hs
  · simp at hs; rcases hs with rfl | rfl <;> omega
  split at hs
  · simp at hs; rcases hs with rfl | rfl <;> omega
  split at hs
  · simp at hs; rcases hs with rfl | rfl <;> omega
  split at hs
  · simp at hs; rcases hs with rfl | rfl <;> omega
  · cases hs
theorem bytes_made (a b c d e f : Nat) : (bytesM (madeM a b c d e f)).length ≤ 100 := by
  have h1 := flat_small _ 10 (fieldsT_small _ 10 (made_texts a b c d e f))
  have h2 := flat_lenN (fieldsN (madeM a b c d e f))
  have h3 := fields_few (madeM a b c d e f)
  unfold bytesM
  rw [if_pos (made_valid a b c d e f), List.length_append, List.length_append, bytesN_len, h2]
  have h4 : (fieldsT (madeM a b c d e f)).length * (10 + 2) ≤ 2 * 12 := Nat.mul_le_mul h3.1 (Nat.le_refl _)
  omega

end Go.Proofs.Ythpajecigkfajaa
