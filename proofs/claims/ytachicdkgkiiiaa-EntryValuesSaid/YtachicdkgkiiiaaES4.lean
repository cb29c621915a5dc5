/-
  Plain facts on entries and their values: a value tells its entry. No program.
-/
import Derived.Test.YtachicdkgkiiiaaEWE
namespace Go.Proofs.Ytachicdkgkiiiaa
set_option linter.unusedVariables false

theorem readE_tailE {k s l i o : Int} {t : Bs} (h : validE ⟨k, s, l, i, o, t⟩ = true) : ∃ e, readE k.toNat (tailE ⟨k, s, l, i, o, t⟩) = some e ∧ e.size = s ∧ e.links = l ∧ e.id = i ∧ e.text = t := by
  rcases validE_kind h with rfl | rfl | rfl | rfl
  · obtain ⟨rfl, rfl, rfl, rfl⟩ := validE_dir h
    exact ⟨Ent.zero, rfl, rfl, rfl, rfl, rfl⟩
  · obtain ⟨h1, h2, h3, h4, rfl, rfl⟩ := validE_file h
    obtain ⟨a, rfl⟩ := Int.eq_ofNat_of_zero_le h1
    obtain ⟨b, rfl⟩ := Int.eq_ofNat_of_zero_le h3
    refine ⟨{ Ent.zero with size := a, links := b }, ?_, rfl, rfl, rfl, rfl⟩
    have hl : (bytesN 2 a ++ bytesN 2 b).length = 4 := by rw [List.length_append, bytesN_len, bytesN_len]
    have e1 : (bytesN 2 a ++ bytesN 2 b).take 2 = bytesN 2 a := List.take_left' (bytesN_len 2 a)
    have e2 : (bytesN 2 a ++ bytesN 2 b).drop 2 = bytesN 2 b := List.drop_left' (bytesN_len 2 a)
    show readE 2 (bytesN 2 (a : Int).toNat ++ bytesN 2 (b : Int).toNat) = _
    rw [Int.toNat_natCast, Int.toNat_natCast]
    unfold readE
    rw [if_neg (by decide), if_pos rfl, if_pos hl, e1, e2, numF_bytesN, numF_bytesN, Nat.mod_eq_of_lt (by omega), Nat.mod_eq_of_lt (by omega)]
  · obtain ⟨rfl, rfl, rfl, _⟩ := validE_sym h
    exact ⟨{ Ent.zero with text := t }, rfl, rfl, rfl, rfl, rfl⟩
  · obtain ⟨rfl, rfl, rfl, h1, h2⟩ := validE_link h
    obtain ⟨a, rfl⟩ := Int.eq_ofNat_of_zero_le h1
    refine ⟨{ Ent.zero with id := a }, ?_, rfl, rfl, rfl, rfl⟩
    show readE 4 (bytesN 4 (a : Int).toNat) = _
    rw [Int.toNat_natCast]
    unfold readE
    rw [if_neg (by decide), if_neg (by decide), if_neg (by decide), if_pos rfl, if_pos (bytesN_len 4 a), numF_bytesN, Nat.mod_eq_of_lt (by omega)]

theorem validE_kind_nat {k s l i o : Int} {t : Bs} (h : validE ⟨k, s, l, i, o, t⟩ = true) : (((k.toNat.toUInt8).toNat : Nat) : Int) = k ∧ (((o.toNat.toUInt8).toNat : Nat) : Int) = o ∧ (k.toNat.toUInt8).toNat = k.toNat := by
  have h1 := validE_owner h
  have h2 := validE_kind h
  have e : ∀ n : Nat, n < 256 → (n.toUInt8).toNat = n := fun n hn => by simp; omega
  refine ⟨?_, ?_, ?_⟩
  · rw [e _ (by omega)]; omega
  · rw [e _ (by omega)]; omega
  · exact e _ (by omega)

/-- A valid entry is read from its value. -/
theorem decE_valueE {a : Ent} (h : validE a = true) : decE (valueE a) = (a, 0) := by
  obtain ⟨k, s, l, i, o, t⟩ := a
  obtain ⟨e, he, rfl, rfl, rfl, rfl⟩ := readE_tailE h
  obtain ⟨hk, ho, hkn⟩ := validE_kind_nat h
  show decE ((k.toNat.toUInt8) :: (o.toNat.toUInt8) :: tailE ⟨k, e.size, e.links, e.id, o, e.text⟩) = _
  rw [decE_cons, hkn, he]
  simp only
  rw [← hkn, hk, ho]
  simp only [h, ↓reduceIte]

theorem valueE_inj {a b : Ent} (ha : validE a = true) (hb : validE b = true) : valueE a = valueE b ↔ a = b := by
  constructor
  · intro h
    have h1 := decE_valueE ha
    rw [h, decE_valueE hb] at h1
    exact (Prod.mk.inj h1).1.symm
  · intro h; rw [h]

theorem valueE_len {a : Ent} (h : validE a = true) : 2 ≤ (valueE a).length ∧ (valueE a).length ≤ 52 := by
  obtain ⟨k, s, l, i, o, t⟩ := a
  have hl : (valueE ⟨k, s, l, i, o, t⟩).length = (tailE ⟨k, s, l, i, o, t⟩).length + 2 := rfl
  rw [hl]
  rcases validE_kind h with rfl | rfl | rfl | rfl
  · exact ⟨by simp [tailE], by simp [tailE]⟩
  · simp [tailE, bytesN_len]
  · have := textB_len (validE_sym h).2.2.2
    simp [tailE]; omega
  · simp [tailE, bytesN_len]

theorem valueE_head {a : Ent} (h : validE a = true) : ∃ r, valueE a = (a.kind.toNat.toUInt8) :: r ∧ (((a.kind.toNat.toUInt8).toNat : Nat) : Int) = a.kind := by
  obtain ⟨k, s, l, i, o, t⟩ := a
  exact ⟨_, rfl, (validE_kind_nat h).1⟩

/-- A value with one byte more is that of a text alone. -/
theorem decE_more {a : Ent} (m : UInt8) (h : validE a = true) : decE (valueE a ++ [m]) = (Ent.zero, 30) ∨ (a.kind = 3 ∧ ∃ d, decE (valueE a ++ [m]) = (d, 0) ∧ d.text = a.text ++ [m] ∧ d.text.length ≤ 50) := by
  rcases decE_cases (valueE a ++ [m]) with h1 | ⟨d, h1, hv, hval⟩
  · exact .inl h1
  · right
    obtain ⟨k, s, l, i, o, t⟩ := a
    obtain ⟨k', s', l', i', o', t'⟩ := d
    have hk := (validE_kind_nat h)
    have hk' := (validE_kind_nat hv)
    have e : (k'.toNat.toUInt8) :: (o'.toNat.toUInt8) :: tailE ⟨k', s', l', i', o', t'⟩ = (k.toNat.toUInt8) :: (o.toNat.toUInt8) :: (tailE ⟨k, s, l, i, o, t⟩ ++ [m]) := hval
    simp only [List.cons.injEq] at e
    obtain ⟨e1, e2, e3⟩ := e
    have ek : k' = k := by rw [← hk'.1, ← hk.1, e1]
    subst ek
    have hlen := congrArg List.length e3
    rcases validE_kind h with rfl | rfl | rfl | rfl
    · simp [tailE] at hlen
    · simp [tailE, bytesN_len] at hlen
    · refine ⟨rfl, _, h1, ?_, (textB_len (validE_sym hv).2.2.2).2⟩
      simpa [tailE] using e3
    · simp [tailE, bytesN_len] at hlen

/-- A value without its last byte is that of a text alone. -/
theorem decE_less {a : Ent} (h : validE a = true) : decE ((valueE a).take ((valueE a).length - 1)) = (Ent.zero, 30) ∨ (a.kind = 3 ∧ 1 < a.text.length) := by
  rcases decE_cases ((valueE a).take ((valueE a).length - 1)) with h1 | ⟨d, h1, hv, hval⟩
  · exact .inl h1
  · obtain ⟨k, s, l, i, o, t⟩ := a
    obtain ⟨k', s', l', i', o', t'⟩ := d
    have hk := (validE_kind_nat h)
    have hk' := (validE_kind_nat hv)
    have hlen := congrArg List.length hval
    have hlv : (valueE ⟨k, s, l, i, o, t⟩).length = (tailE ⟨k, s, l, i, o, t⟩).length + 2 := rfl
    have hlv' : (valueE ⟨k', s', l', i', o', t'⟩).length = (tailE ⟨k', s', l', i', o', t'⟩).length + 2 := rfl
    rw [List.length_take, hlv', hlv] at hlen
    have e1 : k' = k := by
      have h0 := congrArg (fun l => l[0]?) hval
      simp only [List.getElem?_take] at h0
      rw [if_pos (by omega)] at h0
      have h2 : some (k'.toNat.toUInt8) = some (k.toNat.toUInt8) := h0
      simp only [Option.some.injEq] at h2
      rw [← hk'.1, ← hk.1, h2]
    subst e1
    rcases validE_kind h with rfl | rfl | rfl | rfl
    · simp [tailE] at hlen
    · simp [tailE, bytesN_len] at hlen
    · right
      have h3 := textB_len (validE_sym hv).2.2.2
      refine ⟨rfl, ?_⟩
      simp [tailE] at hlen
      simp only
      omega
    · simp [tailE, bytesN_len] at hlen

end Go.Proofs.Ytachicdkgkiiiaa
