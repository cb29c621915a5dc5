/-
  Plain facts: a message is read from its bytes, whatever follows; each beginning of them is too short.
-/
import Derived.Test.YtmbfghbhajmpiaaGreatNO
import Derived.Test.YtmbfghbhajmpiaaGreatMQ
namespace Go.Proofs.YtmbfghbhajmpiaaGreat
set_option linter.unusedVariables false

theorem takeP_app (x r : Bs) (f : Bool) : takeP x.length (x ++ r, f) = (x, (r, f)) := by
  unfold takeP
  rw [if_neg (by simp)]
  simp
theorem takeP_app' (k : Nat) (x r : Bs) (f : Bool) (h : x.length = k) : takeP k (x ++ r, f) = (x, (r, f)) := by subst h; exact takeP_app x r f
theorem numP_app (k n : Nat) (r : Bs) (f : Bool) (h : n < 256 ^ k) : numP k (bytesN k n ++ r, f) = (n, (r, f)) := by
  unfold numP
  rw [takeP_app' k _ _ _ (bytesN_len k n)]
  simp only [numF_bytesN]
  rw [Nat.mod_eq_of_lt h]
theorem textP_app (t r : Bs) (f : Bool) (h : t.length ≤ 65535) : textP (textB t ++ r, f) = (t, (r, f)) := by
  unfold textP textB
  rw [List.append_assoc, numP_app 2 t.length _ f (by omega)]
  exact takeP_app t r f
theorem fields_zero {m : Ms} (h : bareM m = zeroM m.kind) : m =
    (if m.kind = 1 then { zeroM m.kind with key := m.key, val := m.val, n := m.n }
     else if m.kind = 2 then { zeroM m.kind with key := m.key }
     else if m.kind = 3 then { zeroM m.kind with lo := m.lo, hi := m.hi }
     else if m.kind = 4 then { zeroM m.kind with src := m.src, dst := m.dst }
     else if m.kind = 5 then { zeroM m.kind with src := m.src, dst := m.dst }
     else if m.kind = 6 then { zeroM m.kind with lo := m.lo, hi := m.hi, n := m.n }
     else zeroM m.kind) := by
  obtain ⟨k, a, b, c, d, e, f, n⟩ := m
  unfold bareM zeroM at *
  simp only at *
  split
  · rename_i h1; simp [h1] at h; simp [h]
  split
  · rename_i h1 h2; simp [h2] at h; simp [h]
  split
  · rename_i h1 h2 h3; simp [h3] at h; simp [h]
  split
  · rename_i h1 h2 h3 h4; simp [h4] at h; simp [h]
  split
  · rename_i h1 h2 h3 h4 h5; simp [h5] at h; simp [h]
  split
  · rename_i h1 h2 h3 h4 h5 h6; simp [h6] at h; simp [h]
  · rename_i h1 h2 h3 h4 h5 h6; simp [h1, h2, h3, h4, h5, h6] at h; simp [h]
theorem restM_app (m : Ms) (r : Bs) (hv : validM m = true) : restM m.kind ((fieldsT m).flatMap textB ++ (fieldsN m).flatMap (fun n => bytesN 4 n.toNat) ++ r, false) = (m, (r, false)) := by
  obtain ⟨hs, hn, -, -⟩ := valid_small hv
  have hz := fields_zero (valid_bare hv)
  unfold fieldsT at hs ⊢
  unfold fieldsN at hn ⊢
  unfold restM
  rcases kind_cases m hv with h1 | h1 | h1 | h1 | h1 | h1
  · simp [h1] at hs hn hz ⊢
    rw [textP_app _ _ _ (by omega), textP_app _ _ _ (by omega), numP_app 4 m.n.toNat r false (by omega)]
    refine ⟨?_, rfl⟩
    conv => rhs; rw [hz]
    simp only [Ms.mk.injEq, true_and, zeroM]
    omega
  · simp [h1] at hs hn hz ⊢
    rw [textP_app _ _ _ (by omega)]
    exact ⟨hz.symm, rfl⟩
  · simp [h1] at hs hn hz ⊢
    rw [textP_app _ _ _ (by omega), textP_app _ _ _ (by omega)]
    exact ⟨hz.symm, rfl⟩
  · simp [h1] at hs hn hz ⊢
    rw [textP_app _ _ _ (by omega), textP_app _ _ _ (by omega)]
    exact ⟨hz.symm, rfl⟩
  · simp [h1] at hs hn hz ⊢
    rw [textP_app _ _ _ (by omega), textP_app _ _ _ (by omega)]
    exact ⟨hz.symm, rfl⟩
  · simp [h1] at hs hn hz ⊢
    rw [textP_app _ _ _ (by omega), textP_app _ _ _ (by omega), numP_app 4 m.n.toNat r false (by omega)]
    refine ⟨?_, rfl⟩
    conv => rhs; rw [hz]
    simp only [Ms.mk.injEq, true_and, zeroM]
    omega
theorem kind_nat {m : Ms} (hv : validM m = true) : ((m.kind.toNat : Nat) : Int) = m.kind ∧ m.kind.toNat < 256 := by
  have := kind_cases m hv; omega
/-- A message is read from its bytes. -/
theorem parse_app (m : Ms) (r : Bs) (hv : validM m = true) : parseS (bytesM m ++ r) = some (m, (bytesM m).length) := by
  obtain ⟨hk, hk2⟩ := kind_nat hv
  have hb : bytesM m = bytesN 1 m.kind.toNat ++ ((fieldsT m).flatMap textB ++ (fieldsN m).flatMap (fun n => bytesN 4 n.toNat)) := by unfold bytesM; rw [if_pos hv, List.append_assoc]
  have h1 : numP 1 (bytesM m ++ r, false) = (m.kind.toNat, ((fieldsT m).flatMap textB ++ (fieldsN m).flatMap (fun n => bytesN 4 n.toNat) ++ r, false)) := by
    rw [hb, List.append_assoc]; exact numP_app 1 _ _ _ (by omega)
  unfold parseS
  rw [h1]
  simp only [hk]
  rw [restM_app m r hv]
  simp [hv]

end Go.Proofs.YtmbfghbhajmpiaaGreat
