/-
  Plain facts on the reference of package path: names, paths, bodies, places. No program.
-/
import Derived.Test.YticlomakmcjcfaaS3
namespace Go.Proofs.Yticlomakmcjcfaa

/-- The texts before each slash, and what comes after the last one. -/
def namesA (o : List Bs) (l : Bs) : Bs → List Bs × Bs
  | [] => (o, l)
  | c :: r => if c = 47 then namesA (o ++ [l]) [] r else namesA o (l ++ [c]) r
def namesS (p : Bs) : List Bs × Bs := namesA [] [] p
theorem namesA_snoc (p : Bs) : ∀ (o : List Bs) (l : Bs) (c : UInt8), namesA o l (p ++ [c]) = if c = 47 then ((namesA o l p).1 ++ [(namesA o l p).2], []) else ((namesA o l p).1, (namesA o l p).2 ++ [c]) := by
  induction p with
  | nil => intro o l c; simp only [List.nil_append, namesA]
  | cons d r ih => intro o l c; simp only [List.cons_append, namesA]; split <;> exact ih _ _ _
theorem namesS_snoc (p : Bs) (c : UInt8) : namesS (p ++ [c]) = if c = 47 then ((namesS p).1 ++ [(namesS p).2], []) else ((namesS p).1, (namesS p).2 ++ [c]) := namesA_snoc p [] [] c
theorem namesA_len (p : Bs) : ∀ (o : List Bs) (l : Bs), (namesA o l p).1.length ≤ o.length + p.length ∧ (namesA o l p).2.length ≤ l.length + p.length := by
  induction p with
  | nil => intro o l; simp [namesA]
  | cons d r ih =>
    intro o l
    simp only [namesA]
    split
    · have := ih (o ++ [l]) []; simp at this ⊢; omega
    · have := ih o (l ++ [d]); simp at this ⊢; omega
theorem namesS_len (p : Bs) : (namesS p).1.length ≤ p.length ∧ (namesS p).2.length ≤ p.length := by have := namesA_len p [] []; simpa [namesS] using this
theorem namesA_each (p : Bs) : ∀ (o : List Bs) (l : Bs) (n : Nat), (∀ m ∈ o, m.length ≤ n) → l.length + p.length ≤ n → ∀ m ∈ (namesA o l p).1, m.length ≤ n := by
  induction p with
  | nil => intro o l n h _; exact h
  | cons d r ih =>
    intro o l n h hl
    simp only [namesA]
    simp only [List.length_cons] at hl
    split
    · refine ih _ _ n ?_ (by simp; omega)
      intro m hm
      rcases List.mem_append.1 hm with hm | hm
      · exact h m hm
      · simp at hm; subst hm; omega
    · exact ih _ _ n h (by simp; omega)
theorem namesS_each (p : Bs) : ∀ m ∈ (namesS p).1, m.length ≤ p.length := namesA_each p [] [] p.length (by simp) (by simp)
theorem namesA_name (m : Bs) : ∀ (o : List Bs) (l r : Bs), (47 : UInt8) ∉ m → namesA o l (m ++ r) = namesA o (l ++ m) r := by
  induction m with
  | nil => intro o l r _; simp
  | cons c t ih =>
    intro o l r h
    simp only [List.mem_cons, not_or] at h
    simp only [List.cons_append, namesA]
    rw [if_neg (fun e => h.1 e.symm), ih _ _ _ h.2]
    simp
theorem namesA_join (ms : List Bs) (h : ∀ m ∈ ms, nameB m = true) : ∀ o : List Bs, namesA o [] (joinN ms) = (o ++ ms, []) := by
  induction ms with
  | nil => intro o; simp [joinN, namesA]
  | cons m ms ih =>
    intro o
    rw [joinN_cons, namesA_name _ _ _ _ (nameB_no47 (h m (by simp)))]
    simp only [List.nil_append, namesA, ↓reduceIte]
    rw [ih (fun x hx => h x (by simp [hx]))]
    simp
theorem namesS_join (ms : List Bs) (h : ∀ m ∈ ms, nameB m = true) : namesS (joinN ms) = (ms, []) := by have := namesA_join ms h []; simpa [namesS] using this
theorem namesA_all (p : Bs) : ∀ (o : List Bs) (l : Bs), joinN (namesA o l p).1 ++ (namesA o l p).2 = joinN o ++ l ++ p := by
  induction p with
  | nil => intro o l; simp [namesA]
  | cons c r ih =>
    intro o l
    simp only [namesA]
    split
    · rename_i h; subst h; rw [ih, joinN_append]; simp [joinN]
    · rw [ih]; simp
theorem namesS_all (p : Bs) : joinN (namesS p).1 ++ (namesS p).2 = p := by have := namesA_all p [] []; simpa [namesS, joinN] using this
/-- A path by its names. -/
theorem valid_names (p : Bs) : ((namesS p).1.all nameB && (namesS p).2.isEmpty) = validB p := by
  rw [Bool.eq_iff_iff]
  constructor
  · intro h
    simp only [Bool.and_eq_true, List.all_eq_true, List.isEmpty_iff] at h
    have e := namesS_all p
    rw [h.2, List.append_nil] at e
    rw [← e]
    exact validB_names _ h.1
  · intro h
    obtain ⟨ms, h1, rfl⟩ := validB_split h
    rw [namesS_join ms h1]
    simp only [List.isEmpty_nil, Bool.and_true, List.all_eq_true]
    exact h1
theorem names_ne {p : Bs} (h : validB p = true) (hp : p ≠ []) : ∃ b m, namesS p = (b ++ [m], []) ∧ p = joinN b ++ m ++ [47] ∧ splitS p = (joinN b, m, 0) := by
  obtain ⟨ms, h1, rfl⟩ := validB_split h
  have hne : ms ≠ [] := fun e => hp (by rw [e]; rfl)
  obtain ⟨b, m, rfl⟩ : ∃ b m, ms = b ++ [m] := ⟨ms.dropLast, ms.getLast hne, (List.dropLast_concat_getLast hne).symm⟩
  have e : joinN (b ++ [m]) = joinN b ++ m ++ [47] := by rw [joinN_append]; simp [joinN]
  refine ⟨b, m, namesS_join _ h1, e, ?_⟩
  rw [e]
  exact split_join (validB_names b (fun x hx => h1 x (by simp [hx]))) (h1 m (by simp))
theorem valid_two {q : Bs} : validB (q ++ [47] ++ [47]) = false := by
  rw [Bool.eq_false_iff]
  intro h
  obtain ⟨b, m, h1, h2, _⟩ := names_ne h (by simp)
  have h3 := h
  rw [← valid_names, h1] at h3
  simp only [List.all_append, List.all_cons, List.all_nil, Bool.and_true, Bool.and_eq_true] at h3
  have hm := nameB_no47 h3.1.2
  have e : q ++ [47] = joinN b ++ m := List.append_cancel_right h2
  rcases List.eq_nil_or_concat m with h0 | ⟨t, c, h0⟩
  · exact nameB_ne h3.1.2 h0
  · rw [List.concat_eq_append] at h0
    subst h0
    rw [← List.append_assoc] at e
    have := List.append_inj_right' e rfl
    simp at this
    exact hm (by rw [← this]; simp)

/-- What a byte counts as a digit. -/
def dvI (c : UInt8) : Int := if 48 ≤ c.toNat ∧ c.toNat ≤ 57 then (c.toNat : Int) - 48 else (c.toNat : Int) - 87
def idF (l : Bs) : Int := l.foldl (fun a c => 16 * a + dvI c) 0
theorem idF_snoc (l : Bs) (c : UInt8) : idF (l ++ [c]) = 16 * idF l + dvI c := by simp [idF]
theorem dvI_le (c : UInt8) : -87 ≤ dvI c ∧ dvI c ≤ 168 := by
  have := c.toNat_lt
  unfold dvI; split <;> omega
theorem dvI_dig {c : UInt8} (h : digB c.toNat = true) : 0 ≤ dvI c ∧ dvI c < 16 ∧ hexD (dvI c).toNat = c := by
  have key : ∀ n : Fin 256, digB ((UInt8.ofNat n.1).toNat) = true → 0 ≤ dvI (UInt8.ofNat n.1) ∧ dvI (UInt8.ofNat n.1) < 16 ∧ hexD (dvI (UInt8.ofNat n.1)).toNat = UInt8.ofNat n.1 := by decide +kernel
  have := key ⟨c.toNat, c.toNat_lt⟩
  simp only [UInt8.ofNat_toNat] at this
  exact this h
theorem dvI_small {c : UInt8} (h2 : c.toNat ≤ 55) : dvI c < 8 := by
  unfold dvI
  split <;> omega
theorem eight {l : Bs} (h : l.length = 8) : ∃ a b c d e f g i, l = [a, b, c, d, e, f, g, i] := by
  match l, h with
  | [a, b, c, d, e, f, g, i], _ => exact ⟨a, b, c, d, e, f, g, i, rfl⟩
theorem ten {l : Bs} (h : l.length = 10) : ∃ x a b c d e f g i y, l = [x, a, b, c, d, e, f, g, i, y] := by
  match l, h with
  | [x, a, b, c, d, e, f, g, i, y], _ => exact ⟨x, a, b, c, d, e, f, g, i, y, rfl⟩
/-- A body by its number. -/
theorem body_id {p : Bs} (h : p.length = 10) : (bodyS (idF ((p.drop 1).take 8)) == p) = bodyB p := by
  rw [Bool.eq_iff_iff]
  constructor
  · intro e
    simp only [beq_iff_eq] at e
    rw [← e]
    unfold bodyS
    split
    · rename_i hc
      exfalso
      rw [bodyS, if_pos hc] at e
      subst e; simp at h
    · exact body_bodyN _ (by omega)
  · intro hb
    obtain ⟨x, a, b, c, d, e, f, g, i, y, rfl⟩ := ten h
    simp only [beq_iff_eq]
    unfold bodyB at hb
    simp only [List.getElem?_cons_zero, List.length_cons, List.length_nil, Bool.and_eq_true, beq_iff_eq, Option.some.injEq, List.getElem?_cons_succ, List.drop_succ_cons, List.drop_zero, List.take_succ_cons, List.take_zero, List.all_cons, List.all_nil, Bool.and_true, Option.any_some, decide_eq_true_eq] at hb
    obtain ⟨⟨⟨⟨_, hx⟩, hy⟩, ha, hbb, hc, hd, he, hf, hg, hi⟩, h7⟩ := hb
    subst hx hy
    have ka := dvI_dig ha
    have kb := dvI_dig hbb
    have kc := dvI_dig hc
    have kd := dvI_dig hd
    have ke := dvI_dig he
    have kf := dvI_dig hf
    have kg := dvI_dig hg
    have ki := dvI_dig hi
    have k7 := dvI_small h7
    have hid : idF ((([5, a, b, c, d, e, f, g, i, 47] : Bs).drop 1).take 8) = 16 * (16 * (16 * (16 * (16 * (16 * (16 * (16 * 0 + dvI a) + dvI b) + dvI c) + dvI d) + dvI e) + dvI f) + dvI g) + dvI i := rfl
    rw [hid]
    obtain ⟨a', ea⟩ := Int.eq_ofNat_of_zero_le ka.1
    obtain ⟨b', eb⟩ := Int.eq_ofNat_of_zero_le kb.1
    obtain ⟨c', ec⟩ := Int.eq_ofNat_of_zero_le kc.1
    obtain ⟨d', ed⟩ := Int.eq_ofNat_of_zero_le kd.1
    obtain ⟨e', ee⟩ := Int.eq_ofNat_of_zero_le ke.1
    obtain ⟨f', ef⟩ := Int.eq_ofNat_of_zero_le kf.1
    obtain ⟨g', eg⟩ := Int.eq_ofNat_of_zero_le kg.1
    obtain ⟨i', ei⟩ := Int.eq_ofNat_of_zero_le ki.1
    rw [ea] at ka k7
    rw [eb] at kb
    rw [ec] at kc
    rw [ed] at kd
    rw [ee] at ke
    rw [ef] at kf
    rw [eg] at kg
    rw [ei] at ki
    rw [ea, eb, ec, ed, ee, ef, eg, ei]
    simp only [Int.toNat_natCast] at ka kb kc kd ke kf kg ki
    unfold bodyS
    rw [if_neg (by omega)]
    have hn : (16 * (16 * (16 * (16 * (16 * (16 * (16 * (16 * (0 : Int) + a') + b') + c') + d') + e') + f') + g') + i').toNat = 268435456 * a' + 16777216 * b' + 1048576 * c' + 65536 * d' + 4096 * e' + 256 * f' + 16 * g' + i' := by omega
    rw [hn]
    unfold bodyN
    rw [hexL8']
    have q : ∀ n : Nat, n = 268435456 * a' + 16777216 * b' + 1048576 * c' + 65536 * d' + 4096 * e' + 256 * f' + 16 * g' + i' → n / 268435456 % 16 = a' ∧ n / 16777216 % 16 = b' ∧ n / 1048576 % 16 = c' ∧ n / 65536 % 16 = d' ∧ n / 4096 % 16 = e' ∧ n / 256 % 16 = f' ∧ n / 16 % 16 = g' ∧ n % 16 = i' := by
      intro n hn
      refine ⟨?_, ?_, ?_, ?_, ?_, ?_, ?_, ?_⟩ <;> omega
    obtain ⟨q1, q2, q3, q4, q5, q6, q7, q8⟩ := q _ rfl
    rw [q1, q2, q3, q4, q5, q6, q7, q8, ka.2.2, kb.2.2, kc.2.2, kd.2.2, ke.2.2, kf.2.2, kg.2.2, ki.2.2]
    rfl
def isBodyR (p : Bs) : Bool := if p.length = 10 then bodyS (idF ((p.drop 1).take 8)) == p else false
theorem isBodyR_eq (p : Bs) : isBodyR p = bodyB p := by
  unfold isBodyR
  split
  · rename_i h; exact body_id h
  · rename_i h
    unfold bodyB
    simp [h]

theorem pathP_ok (l : Bs) : validB (pathP l) = true ∧ l = pathP l ++ restP l := by
  obtain ⟨ms, h1, h2⟩ := restP_split l
  have e : pathP l = joinN ms := by
    unfold pathP
    have : l.length - (restP l).length = (joinN ms).length := by
      have := congrArg List.length h2
      simp only [List.length_append] at this
      omega
    rw [this]
    conv => lhs; arg 2; rw [h2]
    exact List.take_left
  rw [e]
  exact ⟨validB_names ms h1, h2⟩
theorem ownP_ok (l : Bs) : (validB (ownP l).1 = true ∨ bodyB (ownP l).1 = true) ∧ l = (ownP l).1 ++ (ownP l).2 := by
  unfold ownP
  split
  · rename_i h
    exact ⟨.inr h.2, (List.take_append_drop 10 l).symm⟩
  · exact ⟨.inl (pathP_ok l).1, (pathP_ok l).2⟩

/-- What a key stands for has this key. -/
theorem key_place {k : Bs} {s : PSt} (h : placeS k = some s) : ownsS s.tag s.path = true ∧ fitsS s.tag s.n s.name = true ∧ keyK s.tag s.path s.n s.name = k ∧ s.rest = [] := by
  unfold placeS at h
  simp only at h
  split at h
  · rename_i hh
    obtain ⟨h1, h2⟩ := hh
    simp only [Option.some.injEq] at h
    rw [h] at h2
    unfold keyS at h h1
    cases hm : markS 6 k with
    | some r =>
      rw [hm] at h h1
      simp only at h h1
      have hk : k = 6 :: r := by
        cases k with
        | nil => simp [markS] at hm
        | cons x t =>
          simp only [markS] at hm
          split at hm
          · rename_i hx
            simp only [Option.some.injEq] at hm
            have : x = 6 := UInt8.toNat_inj.1 (by simpa using (by omega : x.toNat = 6))
            rw [this, hm]
          · cases hm
      obtain ⟨hv, hr⟩ := pathP_ok r
      cases hr2 : restP r with
      | nil => rw [hr2] at h1; simp [markS] at h1
      | cons x t =>
        rw [hr2] at h1 h
        simp only [markS] at h1 h
        split at h1
        · rename_i hx
          rw [if_pos hx] at h
          simp only [Option.getD_some] at h
          have hx1 : x = 1 := UInt8.toNat_inj.1 (by simpa using (by omega : x.toNat = 1))
          subst h
          simp only at h2
          rw [hr2, hx1, h2] at hr
          refine ⟨by simp [ownsS, hv], by simp [fitsS], ?_, h2⟩
          simp only [keyK]
          rw [hk]
          conv => rhs; rw [hr]
          simp
        · simp at h1
    | none =>
      rw [hm] at h h1
      simp only at h h1
      obtain ⟨hv, hr⟩ := ownP_ok k
      have hov : ∀ t : Int, t = 1 ∨ t = 2 ∨ t = 3 → ownsS t (ownP k).1 = true := fun t ht => by
        unfold ownsS; rw [if_pos ht]; simpa using hv
      cases hr2 : (ownP k).2 with
      | nil => rw [hr2] at h1; simp [taggedS] at h1
      | cons x r =>
        rw [hr2] at h1 h
        simp only [taggedS] at h1 h
        by_cases e1 : (x.toNat : Int) = 1
        · rw [if_pos e1] at h1 h
          have hx : x = 1 := UInt8.toNat_inj.1 (by simpa using (by omega : x.toNat = 1))
          subst h
          simp only at h2
          rw [e1]
          refine ⟨hov 1 (.inl rfl), by simp [fitsS], ?_, h2⟩
          simp only [keyK]
          rw [hr2, hx, h2] at hr
          conv => rhs; rw [hr]
          simp
        · rw [if_neg e1] at h1 h
          by_cases e2 : (x.toNat : Int) = 2
          · rw [if_pos e2] at h1 h
            have hx : x = 2 := UInt8.toNat_inj.1 (by simpa using (by omega : x.toNat = 2))
            match r, h, h1, hr2 with
            | [], _, h1, _ => simp [blockS] at h1
            | [_], _, h1, _ => simp [blockS] at h1
            | y :: z :: r, h, h1, hr2 =>
              simp only [blockS, decide_eq_true_eq] at h1
              simp only [blockS] at h
              subst h
              simp only at h2
              rw [e2]
              have hy := y.toNat_lt
              have hz := z.toNat_lt
              refine ⟨hov 2 (.inr (.inl rfl)), by simp [fitsS]; omega, ?_, h2⟩
              rw [hr2, hx, h2] at hr
              have d1 : (((y.toNat : Int) * 256 + z.toNat) / 256).toNat = y.toNat := by omega
              have d2 : (((y.toNat : Int) * 256 + z.toNat) % 256).toNat = z.toNat := by omega
              simp only [keyK, ↓reduceIte, d1, d2]
              have c1 : y.toNat.toUInt8 = y := by simp
              have c2 : z.toNat.toUInt8 = z := by simp
              rw [c1, c2]
              exact hr.symm
          · rw [if_neg e2] at h1 h
            by_cases e3 : (x.toNat : Int) = 3
            · rw [if_pos e3] at h1 h
              have hx : x = 3 := UInt8.toNat_inj.1 (by simpa using (by omega : x.toNat = 3))
              simp only [attrS] at h h1
              subst h
              simp only
              rw [e3]
              refine ⟨hov 3 (.inr (.inr rfl)), by simp [fitsS, h1], ?_, trivial⟩
              simp only [keyK]
              rw [hr2, hx] at hr
              conv => rhs; rw [hr]
              simp
            · rw [if_neg e3] at h1
              simp at h1
  · cases h

/-- The place that a key may be that of, if its tag is the byte with an index. -/
def guessS (k : Bs) (i : Nat) : PSt :=
  let t := (k.getD i 0).toNat
  let r := k.drop (i + 1)
  { rest := [],
    path := if t = 1 ∧ 0 < i ∧ k.getD 0 0 = 6 then (k.take i).drop 1 else k.take i,
    tag := if t = 1 ∧ 0 < i ∧ k.getD 0 0 = 6 then 4 else t,
    n := if t = 2 ∧ r.length = 2 then 256 * ((r.getD 0 0).toNat : Int) + (r.getD 1 0).toNat else 0,
    name := if t = 3 then r else [] }
def keyG (x : PSt) : Bs × Int := keyF x.path x.tag x.n x.name
def hitB (k : Bs) (i : Nat) : Bool := decide (1 ≤ (k.getD i 0).toNat) && decide ((k.getD i 0).toNat ≤ 3) && decide ((keyG (guessS k i)).2 = 0) && ((keyG (guessS k i)).1 == k)
theorem keyF_zero {p m : Bs} {t n : Int} (h : (keyF p t n m).2 = 0) : ownsS t p = true ∧ fitsS t n m = true ∧ (keyF p t n m).1 = keyK t p n m := by
  unfold keyF at h ⊢
  split at h
  · rename_i hh; rw [if_pos hh]; exact ⟨hh.1, hh.2, rfl⟩
  · cases h
theorem hit_place {k : Bs} {i : Nat} (h : hitB k i = true) : placeS k = some (guessS k i) := by
  unfold hitB at h
  simp only [Bool.and_eq_true, decide_eq_true_eq, beq_iff_eq] at h
  obtain ⟨⟨_, h1⟩, h2⟩ := h
  unfold keyG at h1 h2
  obtain ⟨a, b, c⟩ := keyF_zero h1
  rw [c] at h2
  have := place_key a b
  rw [h2] at this
  rw [this]
  rfl
theorem guess_at {k p r : Bs} {c : UInt8} (h : k = p ++ c :: r) : k.getD p.length 0 = c ∧ k.take p.length = p ∧ k.drop (p.length + 1) = r := by
  subst h
  refine ⟨by simp [List.getD_eq_getElem?_getD], List.take_left, ?_⟩
  rw [← List.drop_drop, List.drop_left]
  rfl
theorem place_hit {k : Bs} {s : PSt} (h : placeS k = some s) : ∃ i, i < k.length ∧ hitB k i = true := by
  obtain ⟨ho, hf, hk, _⟩ := key_place h
  have hr := ownsS_range' ho
  have fin : ∀ i, i < k.length → 1 ≤ (k.getD i 0).toNat → (k.getD i 0).toNat ≤ 3 → (guessS k i).path = s.path → (guessS k i).tag = s.tag → (guessS k i).n = s.n → (guessS k i).name = s.name → ∃ i, i < k.length ∧ hitB k i = true := by
    intro i hi h1 h2 e1 e2 e3 e4
    refine ⟨i, hi, ?_⟩
    have hkg : keyG (guessS k i) = (k, 0) := by
      unfold keyG
      rw [e1, e2, e3, e4]
      unfold keyF
      rw [if_pos ⟨ho, hf⟩, hk]
    unfold hitB
    rw [hkg]
    simp only [decide_true, BEq.rfl, Bool.and_true, Bool.and_eq_true, decide_eq_true_eq]
    exact ⟨h1, h2⟩
  have h6 : ∀ (c : UInt8) (r : Bs), 1 ≤ c.toNat ∧ c.toNat ≤ 3 → s.tag ≠ 4 → k = s.path ++ c :: r → ¬ (k.getD 0 0 = 6) := by
    intro c r hc h4 e h0
    have hov : validB s.path = true ∨ bodyB s.path = true := by
      unfold ownsS at ho
      rw [if_pos (by omega)] at ho
      simpa using ho
    have := mark6_key hov hc r
    rw [← e] at this
    cases k with
    | nil => simp at h0
    | cons x t =>
      simp only [List.getD_cons_zero] at h0
      subst h0
      simp [markS] at this
  by_cases h4 : s.tag = 4
  · have hn : s.n = 0 ∧ s.name = [] := by rw [h4] at hf; simpa [fitsS] using hf
    have e : k = (6 :: s.path) ++ 1 :: [] := by rw [← hk, h4, hn.1, hn.2]; simp [keyK]
    obtain ⟨g1, g2, g3⟩ := guess_at e
    have g0 : k.getD 0 0 = 6 := by rw [e]; rfl
    refine fin (6 :: s.path).length (by rw [e]; simp) (by rw [g1]; decide) (by rw [g1]; decide) ?_ ?_ ?_ ?_
    · simp only [guessS]; rw [g1, g2, if_pos ⟨by decide, by simp, g0⟩]; rfl
    · simp only [guessS]; rw [g1, if_pos ⟨by decide, by simp, g0⟩]; exact h4.symm
    · simp only [guessS]; rw [g1, if_neg (by simp)]; exact hn.1.symm
    · simp only [guessS]; rw [g1, if_neg (by decide)]; exact hn.2.symm
  · by_cases h2 : s.tag = 2
    · have hn : (0 ≤ s.n ∧ s.n ≤ 60000) ∧ s.name = [] := by rw [h2] at hf; simpa [fitsS] using hf
      have e : k = s.path ++ 2 :: [(s.n / 256).toNat.toUInt8, (s.n % 256).toNat.toUInt8] := by rw [← hk, h2]; simp [keyK]
      obtain ⟨g1, g2, g3⟩ := guess_at e
      have n6 := h6 2 _ (by decide) h4 e
      refine fin s.path.length (by rw [e]; simp) (by rw [g1]; decide) (by rw [g1]; decide) ?_ ?_ ?_ ?_
      · simp only [guessS]; rw [g1, g2, if_neg (by simp)]
      · simp only [guessS]; rw [g1, if_neg (by simp)]; exact h2.symm
      · simp only [guessS]; rw [g1, g3, if_pos ⟨by decide, by simp⟩]; simp; omega
      · simp only [guessS]; rw [g1, if_neg (by decide)]; exact hn.2.symm
    · by_cases h3 : s.tag = 3
      · have hn : s.n = 0 ∧ nameB s.name = true := by rw [h3] at hf; simpa [fitsS] using hf
        have e : k = s.path ++ 3 :: s.name := by rw [← hk, h3]; simp [keyK]
        obtain ⟨g1, g2, g3⟩ := guess_at e
        have n6 := h6 3 _ (by decide) h4 e
        refine fin s.path.length (by rw [e]; simp) (by rw [g1]; decide) (by rw [g1]; decide) ?_ ?_ ?_ ?_
        · simp only [guessS]; rw [g1, g2, if_neg (by simp)]
        · simp only [guessS]; rw [g1, if_neg (by simp)]; exact h3.symm
        · simp only [guessS]; rw [g1, if_neg (by simp)]; exact hn.1.symm
        · simp only [guessS]; rw [g1, g3, if_pos (by decide)]
      · have h1 : s.tag = 1 := by omega
        have hn : s.n = 0 ∧ s.name = [] := by rw [h1] at hf; simpa [fitsS] using hf
        have e : k = s.path ++ 1 :: [] := by rw [← hk, h1]; simp [keyK]
        obtain ⟨g1, g2, g3⟩ := guess_at e
        have n6 := h6 1 _ (by decide) h4 e
        refine fin s.path.length (by rw [e]; simp) (by rw [g1]; decide) (by rw [g1]; decide) ?_ ?_ ?_ ?_
        · simp only [guessS]; rw [g1, g2, if_neg (fun h => n6 h.2.2)]
        · simp only [guessS]; rw [g1, if_neg (fun h => n6 h.2.2)]; exact h1.symm
        · simp only [guessS]; rw [g1, if_neg (by simp)]; exact hn.1.symm
        · simp only [guessS]; rw [g1, if_neg (by decide)]; exact hn.2.symm
theorem no_place {k : Bs} (h : ∀ i, i < k.length → hitB k i = false) : placeS k = none := by
  cases e : placeS k with
  | none => rfl
  | some s =>
    obtain ⟨i, hi, hh⟩ := place_hit e
    rw [h i hi] at hh
    cases hh

end Go.Proofs.Yticlomakmcjcfaa
