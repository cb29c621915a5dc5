/-
  Plain facts on the order of texts. No program.
-/
import Derived.Test.YticlomakmcjcfaaS3
namespace Go.Proofs.Yticlomakmcjcfaa

theorem less_nil (l : Bs) : Op.bytesLess l [] = false := by cases l <;> rfl
theorem less_cons (a b : UInt8) (l m : Bs) : Op.bytesLess (a :: l) (b :: m) = (decide (a < b) || (a == b && Op.bytesLess l m)) := rfl
theorem less_same (p l m : Bs) : Op.bytesLess (p ++ l) (p ++ m) = Op.bytesLess l m := by
  induction p with
  | nil => rfl
  | cons a p ih => rw [List.cons_append, List.cons_append, less_cons, ih]; simp
theorem less_snoc : ∀ (u v : Bs) (c d : UInt8), u.length = v.length → Op.bytesLess (u ++ [c]) (v ++ [d]) = (Op.bytesLess u v || (u == v && decide (c < d)))
  | [], [], c, d, _ => by simp [Op.bytesLess]
  | a :: u, b :: v, c, d, h => by
    have ih := less_snoc u v c d (by simpa using h)
    rw [List.cons_append, List.cons_append, less_cons, less_cons, ih]
    have e : (a :: u == b :: v) = (a == b && u == v) := rfl
    rw [e]
    cases decide (a < b) <;> cases (a == b) <;> cases (Op.bytesLess u v) <;> cases (u == v) <;> rfl
theorem hexL_len (k : Nat) : ∀ n, (hexL k n).length = k := by
  induction k with
  | zero => intro n; rfl
  | succ k ih => intro n; simp [hexL, ih]
theorem hexD_lt {a b : Nat} (ha : a < 16) (hb : b < 16) : decide (hexD a < hexD b) = decide (a < b) ∧ (hexD a == hexD b) = decide (a = b) := by
  have : ∀ a : Fin 16, ∀ b : Fin 16, decide (hexD a.1 < hexD b.1) = decide (a.1 < b.1) ∧ (hexD a.1 == hexD b.1) = decide (a.1 = b.1) := by decide +kernel
  exact this ⟨a, ha⟩ ⟨b, hb⟩
theorem hexL_less (k : Nat) : ∀ a b : Nat, a < 16 ^ k → b < 16 ^ k → Op.bytesLess (hexL k a) (hexL k b) = decide (a < b) ∧ (hexL k a == hexL k b) = decide (a = b) := by
  induction k with
  | zero =>
    intro a b ha hb
    obtain rfl : a = 0 := by simpa using ha
    obtain rfl : b = 0 := by simpa using hb
    exact ⟨rfl, rfl⟩
  | succ k ih =>
    intro a b ha hb
    have hp : 16 ^ (k + 1) = 16 ^ k * 16 := Nat.pow_succ _ _
    obtain ⟨h1, h2⟩ := ih (a / 16) (b / 16) (by omega) (by omega)
    obtain ⟨h3, h4⟩ := hexD_lt (a := a % 16) (b := b % 16) (by omega) (by omega)
    have he : (hexL (k + 1) a == hexL (k + 1) b) = (hexL k (a / 16) == hexL k (b / 16) && hexD (a % 16) == hexD (b % 16)) := by
      simp only [hexL]
      rw [Bool.eq_iff_iff]
      simp only [beq_iff_eq, Bool.and_eq_true]
      constructor
      · intro h
        have := List.append_inj h (by rw [hexL_len, hexL_len])
        exact ⟨this.1, by simpa using this.2⟩
      · rintro ⟨h, h'⟩; rw [h, h']
    constructor
    · simp only [hexL]
      rw [less_snoc _ _ _ _ (by rw [hexL_len, hexL_len]), h1, h2, h3]
      rw [Bool.eq_iff_iff]; simp only [Bool.or_eq_true, Bool.and_eq_true, decide_eq_true_eq]; omega
    · rw [he, h2, h4]
      rw [Bool.eq_iff_iff]; simp only [Bool.and_eq_true, decide_eq_true_eq]; omega
theorem body_less {a b : Nat} (ha : a ≤ 2147483647) (hb : b ≤ 2147483647) : Op.bytesLess (bodyN a) (bodyN b) = decide (a < b) := by
  unfold bodyN
  rw [List.cons_append, List.cons_append, less_cons, less_snoc _ _ _ _ (by rw [hexL_len, hexL_len])]
  obtain ⟨h1, _⟩ := hexL_less 8 a b (by omega) (by omega)
  rw [h1]; simp
theorem body_len (n : Nat) : (bodyN n).length = 10 := by simp [bodyN, hexL_len]
theorem body_invalid (n : Nat) : validB (bodyN n) = false := by
  rw [Bool.eq_false_iff]
  intro h
  obtain ⟨c, t, e, hc⟩ := valid_head h (by simp [bodyN])
  simp only [bodyN, List.cons_append, List.cons.injEq] at e
  rw [← e.1] at hc
  revert hc; decide

/-- The long path of the law on limits. -/
def longP (k : Nat) : Bs := match k with
  | 0 => []
  | k + 1 => longP k ++ [116, 119, 101, 108, 118, 101, 108, 101, 116, 116, 101, 114, 47]
theorem longP_len (k : Nat) : (longP k).length = 13 * k := by
  induction k with
  | zero => rfl
  | succ k ih => simp only [longP, List.length_append, ih, List.length_cons, List.length_nil]; omega
def restN (n : Nat) : Bs := ([97, 98, 99, 100, 101, 102, 103, 104, 105, 106, 107, 108, 109] : Bs).take n
theorem limit_facts : ∀ n : Fin 14, (joinS (longP 15) (restN n.1) = if n.1 = 0 ∨ 12 < n.1 then ([], 11) else if 4 < n.1 then ([], 2) else (longP 15 ++ restN n.1 ++ [47], 0)) ∧
    (parseS (47 :: (longP 15 ++ restN n.1)) = if n.1 = 0 ∨ 4 < n.1 then ([], 10) else (longP 15 ++ restN n.1 ++ [47], 0)) ∧ (restN n.1).length = n.1 := by decide +kernel

end Go.Proofs.Yticlomakmcjcfaa
