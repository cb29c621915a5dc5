/-
  Plain facts for PathOrders: the order of keys. No program.
-/
import Derived.Test.YticlomakmcjcfaaWU
namespace Go.Proofs.Yticlomakmcjcfaa

theorem valid_chars {p : Bs} (h : validB p = true) : ∀ c ∈ p, 32 < c.toNat := by
  obtain ⟨ms, h1, rfl⟩ := validB_split h
  intro c hc
  unfold joinN at hc
  obtain ⟨m, hm, hcm⟩ := List.mem_flatMap.1 hc
  rcases List.mem_append.1 hcm with h2 | h2
  · exact (chB_range (nameB_chars (h1 m hm) c h2)).1
  · simp at h2; subst h2; decide
theorem valid_app {p q : Bs} (hp : validB p = true) (hq : validB q = true) : validB (p ++ q) = true := by
  unfold validB at hq ⊢
  rw [restP_valid hp]; exact hq
theorem under_key {p q r : Bs} {c : UInt8} (hp : validB p = true) (hc : c.toNat ≤ 3) : p.isPrefixOf (q ++ c :: r) = p.isPrefixOf q := by
  rw [Bool.eq_iff_iff, List.isPrefixOf_iff_prefix, List.isPrefixOf_iff_prefix]
  constructor
  · intro h
    by_cases hl : p.length ≤ q.length
    · exact List.prefix_of_prefix_length_le h (List.prefix_append _ _) hl
    · exfalso
      have hlt : q.length < p.length := by omega
      have h1 : p[q.length]? = some c := by
        obtain ⟨t, ht⟩ := h
        have : (p ++ t)[q.length]? = (q ++ c :: r)[q.length]? := by rw [ht]
        rw [List.getElem?_append_left hlt, List.getElem?_append_right (Nat.le_refl _)] at this
        simpa using this
      have := valid_chars hp c (List.mem_of_getElem? h1)
      omega
  · intro h; exact h.trans (List.prefix_append _ _)
theorem u8_lt (a b : Nat) (ha : a < 256) (hb : b < 256) : decide (a.toUInt8 < b.toUInt8) = decide (a < b) ∧ (a.toUInt8 == b.toUInt8) = decide (a = b) := by
  have h1 : (a.toUInt8).toNat = a := by simp; omega
  have h2 : (b.toUInt8).toNat = b := by simp; omega
  constructor
  · rw [Bool.eq_iff_iff]; simp only [decide_eq_true_eq]
    rw [UInt8.lt_iff_toNat_lt, h1, h2]
  · rw [Bool.eq_iff_iff]; simp only [beq_iff_eq, decide_eq_true_eq]
    constructor
    · intro h; rw [← h1, ← h2, h]
    · intro h; rw [h]
theorem less_blocks (p : Bs) (m n : Nat) (hm : m ≤ 60000) (hn : n ≤ 60000) :
    Op.bytesLess (p ++ [2, ((m : Int) / 256).toNat.toUInt8, ((m : Int) % 256).toNat.toUInt8]) (p ++ [2, ((n : Int) / 256).toNat.toUInt8, ((n : Int) % 256).toNat.toUInt8]) = decide (m < n) := by
  have e1 : ((m : Int) / 256).toNat = m / 256 := by omega
  have e2 : ((m : Int) % 256).toNat = m % 256 := by omega
  have e3 : ((n : Int) / 256).toNat = n / 256 := by omega
  have e4 : ((n : Int) % 256).toNat = n % 256 := by omega
  rw [e1, e2, e3, e4, less_same, less_cons, less_cons, less_cons]
  obtain ⟨a1, a2⟩ := u8_lt (m / 256) (n / 256) (by omega) (by omega)
  obtain ⟨b1, b2⟩ := u8_lt (m % 256) (n % 256) (by omega) (by omega)
  rw [a1, a2, b1, b2]
  have : Op.bytesLess ([] : Bs) [] = false := rfl
  rw [this]
  rw [Bool.eq_iff_iff]
  simp only [Bool.or_eq_true, Bool.and_eq_true, decide_eq_true_eq, Bool.and_false, Bool.or_false]
  have h2 : ((2 : UInt8) == 2) = true := rfl
  have h3 : ¬ ((2 : UInt8) < 2) := by decide
  simp only [h2, h3, true_and, false_or]
  omega
/-- A key as a path, its tag and the rest. -/
theorem keyK_tag {t n : Int} {p m : Bs} (ht : t = 1 ∨ t = 2 ∨ t = 3) : ∃ (c : UInt8) (r : Bs), keyK t p n m = p ++ c :: r ∧ c.toNat ≤ 3 := by
  rcases ht with rfl | rfl | rfl
  · exact ⟨1, [], by simp [keyK], by decide⟩
  · exact ⟨2, _, by simp only [keyK, ↓reduceIte]; rfl, by decide⟩
  · exact ⟨3, m, by simp [keyK], by decide⟩
/-- What the law asks of the order. -/
theorem order_facts (p c2 c3 : Bs) (m n : Nat) (hm : m ≤ 60000) (hn : n ≤ 60000) :
    Op.bytesLess (keyK 1 p 0 []) (keyK 2 p m []) = true ∧ Op.bytesLess (keyK 2 p m []) (keyK 3 p 0 c2) = true ∧ Op.bytesLess (keyK 2 p n []) (keyK 3 p 0 c3) = true ∧
    Op.bytesLess (keyK 2 p m []) (keyK 2 p n []) = decide (m < n) ∧ Op.bytesLess (keyK 3 p 0 c2) (keyK 3 p 0 c3) = Op.bytesLess c2 c3 := by
  have e1 : keyK 1 p 0 [] = p ++ [1] := by simp [keyK]
  have e2 : ∀ k : Int, keyK 2 p k [] = p ++ [2, (k / 256).toNat.toUInt8, (k % 256).toNat.toUInt8] := fun k => by simp [keyK]
  have e3 : ∀ c : Bs, keyK 3 p 0 c = p ++ 3 :: c := fun c => by simp [keyK]
  rw [e1, e2, e2, e3, e3]
  refine ⟨?_, ?_, ?_, less_blocks p m n hm hn, ?_⟩
  · rw [less_same, less_cons]; rfl
  · rw [less_same, less_cons]; rfl
  · rw [less_same, less_cons]; rfl
  · rw [less_same, less_cons]
    have h2 : ((3 : UInt8) == 3) = true := rfl
    have h3 : decide ((3 : UInt8) < 3) = false := by decide
    rw [h2, h3]; simp
theorem below_less {p nm c : Bs} {t n : Int} {m : Bs} (hv : validB nm = true) (hne : nm ≠ []) (ht : t = 1 ∨ t = 2 ∨ t = 3) : Op.bytesLess (keyK 3 p 0 c) (keyK t (p ++ nm) n m) = true := by
  obtain ⟨x, r, e, _⟩ := keyK_tag (t := t) (n := n) (p := p ++ nm) (m := m) ht
  obtain ⟨d, s, rfl, hd⟩ := valid_head hv hne
  have e3 : keyK 3 p 0 c = p ++ 3 :: c := by simp [keyK]
  rw [e, e3, List.append_assoc, less_same, List.cons_append, less_cons]
  have := (chB_range hd).1
  have h3 : decide ((3 : UInt8) < d) = true := by
    rw [decide_eq_true_iff, UInt8.lt_iff_toNat_lt]
    show 3 < d.toNat
    omega
  rw [h3]; rfl

end Go.Proofs.Yticlomakmcjcfaa
