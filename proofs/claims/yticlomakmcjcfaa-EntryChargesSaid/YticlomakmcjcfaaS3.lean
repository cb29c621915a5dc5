/-
  Plain facts on keys: a place is read from its key. No program.
-/
import Derived.Test.YticlomakmcjcfaaS2
namespace Go.Proofs.Yticlomakmcjcfaa

theorem nameB_chars {m : Bs} (h : nameB m = true) : ∀ c ∈ m, chB c = true := by
  unfold nameB at h
  simp only [Bool.and_eq_true, List.all_eq_true] at h
  exact h.2
theorem chB_range {c : UInt8} (h : chB c = true) : 32 < c.toNat ∧ c.toNat ≤ 126 ∧ c ≠ 47 := by
  unfold chB at h
  simp at h
  exact ⟨h.1.1, h.1.2, h.2⟩

/-- A byte that is no byte of a name, in front: no name. -/
theorem nameStep_low {c : UInt8} {r : Bs} (hc : c.toNat ≤ 32) : nameStep (c :: r) = none := by
  unfold nameStep
  split
  · rfl
  · rename_i n hn
    have h47 : ¬ c = 47 := by intro e; subst e; revert hc; decide
    rw [if_neg]
    intro h
    cases n with
    | zero => have := idxOf_mem hn; simp at this; exact h47 this
    | succ n =>
      have := nameB_chars h c (by simp)
      have := (chB_range this).1
      omega
theorem restP_low {c : UInt8} {r : Bs} (hc : c.toNat ≤ 32) : restP (c :: r) = c :: r := restP_none (nameStep_low hc)

theorem valid_head {p : Bs} (h : validB p = true) (hp : p ≠ []) : ∃ c t, p = c :: t ∧ chB c = true := by
  obtain ⟨ms, h1, rfl⟩ := validB_split h
  cases ms with
  | nil => exact absurd rfl hp
  | cons m ms =>
    have hm := h1 m (by simp)
    cases m with
    | nil => exact absurd rfl (nameB_ne hm)
    | cons c t => exact ⟨c, t ++ 47 :: joinN ms, by rw [joinN_cons]; simp, nameB_chars hm c (by simp)⟩
theorem restP_valid {p : Bs} (h : validB p = true) (r : Bs) : restP (p ++ r) = restP r := by
  obtain ⟨ms, h1, rfl⟩ := validB_split h
  exact restP_names ms h1 r
theorem pathP_valid {p : Bs} (h : validB p = true) (r : Bs) : pathP (p ++ r) = p ++ pathP r := by
  have hl := restP_length r
  unfold pathP
  rw [restP_valid h, List.length_append, show p.length + r.length - (restP r).length = p.length + (r.length - (restP r).length) by omega, List.take_length_add_append]
theorem pathP_low {c : UInt8} {r : Bs} (hc : c.toNat ≤ 32) : pathP (c :: r) = [] := by
  unfold pathP; rw [restP_low hc]; simp
theorem bodyB_head {l : Bs} (h : bodyB l = true) : l[0]? = some 5 := by
  unfold bodyB at h
  simp only [Bool.and_eq_true, beq_iff_eq] at h
  exact h.1.1.1.2
theorem bodyB_length {l : Bs} (h : bodyB l = true) : l.length = 10 := by
  unfold bodyB at h
  simp only [Bool.and_eq_true, decide_eq_true_eq] at h
  exact h.1.1.1.1
/-- The owner of a key: a path, or a body. -/
theorem ownP_key {p : Bs} (h : validB p = true ∨ bodyB p = true) {c : UInt8} (hc : 1 ≤ c.toNat ∧ c.toNat ≤ 3) (r : Bs) : ownP (p ++ c :: r) = (p, c :: r) := by
  rcases h with h | h
  · have hno : ¬ (10 ≤ (p ++ c :: r).length ∧ bodyB ((p ++ c :: r).take 10) = true) := by
      rintro ⟨h1, h2⟩
      have h5 := bodyB_head h2
      rw [List.getElem?_take, if_pos (by omega)] at h5
      by_cases hp : p = []
      · subst hp; simp at h5; subst h5; revert hc; decide
      · obtain ⟨d, t, rfl, hd⟩ := valid_head h hp
        simp at h5; subst h5; revert hd; decide
    unfold ownP
    rw [if_neg hno, pathP_valid h, restP_valid h, pathP_low (by omega), restP_low (by omega), List.append_nil]
  · have hl := bodyB_length h
    unfold ownP
    rw [if_pos]
    · rw [List.take_left' hl, List.drop_left' hl]
    · exact ⟨by simp; omega, by rw [List.take_left' hl]; exact h⟩
theorem mark6_key {p : Bs} (h : validB p = true ∨ bodyB p = true) {c : UInt8} (hc : 1 ≤ c.toNat ∧ c.toNat ≤ 3) (r : Bs) : markS 6 (p ++ c :: r) = none := by
  have key : ∀ (d : UInt8) (t : Bs), ¬ (d.toNat : Int) = 6 → markS 6 (d :: t) = none := fun d t hd => by simp [markS, hd]
  cases p with
  | nil => exact key c r (by omega)
  | cons d t =>
    rw [List.cons_append]
    apply key
    rcases h with h | h
    · obtain ⟨d', t', e, hd⟩ := valid_head h (by simp)
      simp only [List.cons.injEq] at e
      rw [e.1]
      have := (chB_range hd).1
      omega
    · have h5 := bodyB_head h
      simp at h5; subst h5; decide

theorem ownsS_range' {t : Int} {p : Bs} (h : ownsS t p = true) : 1 ≤ t ∧ t ≤ 4 := by
  unfold ownsS at h
  split at h
  · omega
  · split at h
    · omega
    · cases h
/-- A place is read from its key. -/
theorem place_key {t n : Int} {p m : Bs} (ho : ownsS t p = true) (hf : fitsS t n m = true) : placeS (keyK t p n m) = some ⟨[], p, t, n, m⟩ := by
  have hr := ownsS_range' ho
  by_cases h4 : t = 4
  · subst h4
    have hv : validB p = true := by simpa [ownsS] using ho
    have hn : n = 0 ∧ m = [] := by simpa [fitsS] using hf
    obtain ⟨rfl, rfl⟩ := hn
    have hk : keyK 4 p 0 [] = 6 :: (p ++ [1]) := by simp [keyK]
    rw [hk]
    unfold placeS keyS
    have hm : markS 6 (6 :: (p ++ [1])) = some (p ++ [1]) := rfl
    simp only [hm]
    rw [restP_valid hv, pathP_valid hv, restP_low (by decide), pathP_low (by decide), List.append_nil]
    rfl
  · have hov : validB p = true ∨ bodyB p = true := by
      unfold ownsS at ho
      rw [if_pos (by omega)] at ho
      simpa using ho
    by_cases h2 : t = 2
    · subst h2
      have hn : (0 ≤ n ∧ n ≤ 60000) ∧ m = [] := by simpa [fitsS] using hf
      obtain ⟨⟨hn1, hn2⟩, rfl⟩ := hn
      have hk : keyK 2 p n [] = p ++ 2 :: [(n / 256).toNat.toUInt8, (n % 256).toNat.toUInt8] := by simp [keyK]
      rw [hk]
      unfold placeS keyS
      rw [mark6_key hov (by decide)]
      simp only
      rw [ownP_key hov (by decide)]
      have e1 : ((((n / 256).toNat.toUInt8).toNat : Nat) : Int) = n / 256 := by simp; omega
      have e2 : ((((n % 256).toNat.toUInt8).toNat : Nat) : Int) = n % 256 := by simp; omega
      have e3 : n / 256 * 256 + n % 256 = n := by omega
      have ht : taggedS ⟨2 :: [(n / 256).toNat.toUInt8, (n % 256).toNat.toUInt8], p, 0, 0, []⟩ = (true, ⟨[], p, 2, n, []⟩) := by
        have hx : taggedS ⟨2 :: [(n / 256).toNat.toUInt8, (n % 256).toNat.toUInt8], p, 0, 0, []⟩ = blockS ⟨[(n / 256).toNat.toUInt8, (n % 256).toNat.toUInt8], p, 2, 0, []⟩ := rfl
        rw [hx]; unfold blockS; simp only [e1, e2, e3]; rw [decide_eq_true hn2]
      rw [ht]; rfl
    · by_cases h3 : t = 3
      · subst h3
        have hn : n = 0 ∧ nameB m = true := by simpa [fitsS] using hf
        obtain ⟨rfl, hm⟩ := hn
        have hk : keyK 3 p 0 m = p ++ 3 :: m := by simp [keyK]
        rw [hk]
        unfold placeS keyS
        rw [mark6_key hov (by decide)]
        simp only
        rw [ownP_key hov (by decide)]
        have ht : taggedS ⟨3 :: m, p, 0, 0, []⟩ = (nameB m, ⟨[], p, 3, 0, m⟩) := rfl
        rw [ht, hm]; rfl
      · have h1 : t = 1 := by omega
        subst h1
        have hn : n = 0 ∧ m = [] := by simpa [fitsS] using hf
        obtain ⟨rfl, rfl⟩ := hn
        have hk : keyK 1 p 0 [] = p ++ 1 :: [] := by simp [keyK]
        rw [hk]
        unfold placeS keyS
        rw [mark6_key hov (by decide)]
        simp only
        rw [ownP_key hov (by decide)]
        rfl
theorem key_inj {t n t' n' : Int} {p m p' m' : Bs} (ho : ownsS t p = true) (hf : fitsS t n m = true) (ho' : ownsS t' p' = true) (hf' : fitsS t' n' m' = true)
    (h : keyK t p n m = keyK t' p' n' m') : p = p' ∧ t = t' ∧ n = n' ∧ m = m' := by
  have h1 := place_key ho hf
  rw [h, place_key ho' hf'] at h1
  simp only [Option.some.injEq, PSt.mk.injEq] at h1
  exact ⟨h1.2.1.symm, h1.2.2.1.symm, h1.2.2.2.1.symm, h1.2.2.2.2.symm⟩

theorem hexD_dig (n : Nat) (h : n < 16) : digB (hexD n).toNat = true := by
  have hc : n = 0 ∨ n = 1 ∨ n = 2 ∨ n = 3 ∨ n = 4 ∨ n = 5 ∨ n = 6 ∨ n = 7 ∨ n = 8 ∨ n = 9 ∨ n = 10 ∨ n = 11 ∨ n = 12 ∨ n = 13 ∨ n = 14 ∨ n = 15 := by omega
  rcases hc with e | e | e | e | e | e | e | e | e | e | e | e | e | e | e | e <;> subst e <;> decide
theorem hexD_small (n : Nat) (h : n < 8) : (hexD n).toNat ≤ 55 := by
  have hc : n = 0 ∨ n = 1 ∨ n = 2 ∨ n = 3 ∨ n = 4 ∨ n = 5 ∨ n = 6 ∨ n = 7 := by omega
  rcases hc with e | e | e | e | e | e | e | e <;> subst e <;> decide
theorem hexL8' (n : Nat) : hexL 8 n = [hexD (n / 268435456 % 16), hexD (n / 16777216 % 16), hexD (n / 1048576 % 16), hexD (n / 65536 % 16), hexD (n / 4096 % 16), hexD (n / 256 % 16), hexD (n / 16 % 16), hexD (n % 16)] := by
  simp only [hexL, Nat.div_div_eq_div_mul, List.nil_append, List.cons_append]
theorem body_bodyN (n : Nat) (h : n ≤ 2147483647) : bodyB (bodyN n) = true := by
  unfold bodyN
  rw [hexL8']
  have hs := hexD_small (n / 268435456 % 16) (by omega)
  have h0 := hexD_dig (n / 268435456 % 16) (by omega)
  have h1 := hexD_dig (n / 16777216 % 16) (by omega)
  have h2 := hexD_dig (n / 1048576 % 16) (by omega)
  have h3 := hexD_dig (n / 65536 % 16) (by omega)
  have h4 := hexD_dig (n / 4096 % 16) (by omega)
  have h5 := hexD_dig (n / 256 % 16) (by omega)
  have h6 := hexD_dig (n / 16 % 16) (by omega)
  have h7 := hexD_dig (n % 16) (by omega)
  unfold bodyB
  simp [h0, h1, h2, h3, h4, h5, h6, h7, hs]
theorem raw_owns (l : Bs) (t n : Nat) (hn : n < 65536) : ownsS (1 + ((t % 4 : Nat) : Int)) (rawPath l t n) = true := by
  have hb : bodyB (bodyS ((n : Int) * 257)) = true := by
    unfold bodyS
    rw [if_neg (by omega)]
    exact body_bodyN _ (by omega)
  have hv := validB_made l
  by_cases h : t % 4 = 3
  · have e : rawPath l t n = madeS l := by unfold rawPath; rw [if_neg (by omega)]
    rw [e]
    unfold ownsS
    rw [if_neg (by omega), if_pos (by omega)]; exact hv
  · have e : rawPath l t n = bodyS ((n : Int) * 257) ∨ rawPath l t n = madeS l := by unfold rawPath; split; exact .inl rfl; exact .inr rfl
    unfold ownsS
    rw [if_pos (by omega)]
    rcases e with e | e <;> rw [e]
    · rw [hb]; simp
    · rw [hv]; simp
theorem bodyN_len (n : Nat) : (bodyN n).length = 10 := by unfold bodyN; rw [hexL8']; rfl
theorem rawPath_le (l : Bs) (t n : Nat) : (rawPath l t n).length ≤ 52 := by
  unfold rawPath; split
  · unfold bodyS; split
    · simp
    · rw [bodyN_len]; omega
  · exact madeS_le l
theorem rawM_le (t n : Nat) : (rawM t n).length ≤ 12 := by
  unfold rawM; split
  · exact callS_le _
  · simp
theorem keyK_le (t : Int) (p : Bs) (n : Int) (m : Bs) : (keyK t p n m).length ≤ p.length + m.length + 3 := by
  unfold keyK; split
  · simp; try omega
  · split
    · simp; try omega
    · split
      · simp; try omega
      · simp; try omega
theorem raw_fits (t n : Nat) : fitsS (1 + ((t % 4 : Nat) : Int)) (rawN t n) (rawM t n) = true := by
  unfold rawN rawM fitsS
  by_cases h1 : t % 4 = 1
  · rw [if_pos (by omega), if_pos h1, if_neg (by omega)]; simp; omega
  · by_cases h2 : t % 4 = 2
    · rw [if_neg (by omega), if_pos (by omega), if_neg h1, if_pos h2]; simp [nameB_callS]
    · rw [if_neg (by omega), if_neg (by omega), if_neg h1, if_neg h2]; rfl

end Go.Proofs.Yticlomakmcjcfaa
