/-
  Plain: the entries that the reference makes. No program.
-/
import Derived.Test.YtachicdkgkiiiaaES2
namespace Go.Proofs.Ytachicdkgkiiiaa
set_option linter.unusedVariables false

/-- A text that the reference makes. -/
def prC (c : UInt8) : UInt8 := 32 + c % 95
def madeT (t : Bs) : Bs := 46 :: (t.map prC).take 49
/-- An entry that the reference makes. -/
def madeE (k o a b : Nat) (t : Bs) : Ent :=
  if k % 4 = 1 then ⟨2, (a % 60001 : Nat), (b % 1001 : Nat), 0, o, []⟩ else if k % 4 = 2 then ⟨3, 0, 0, 0, o, madeT t⟩ else if k % 4 = 3 then ⟨4, 0, 0, (a * 32768 + b % 32768 : Nat), o, []⟩ else ⟨1, 0, 0, 0, o, []⟩

theorem prC_toNat (c : UInt8) : (prC c).toNat = 32 + c.toNat % 95 := by
  unfold prC; rw [UInt8.toNat_add, UInt8.toNat_mod]; simp; omega
theorem madeT_text (t : Bs) : textB (madeT t) = true := by
  unfold textB madeT
  simp only [Bool.and_eq_true, decide_eq_true_eq, List.length_cons, List.length_map, List.length_take, List.all_cons, List.all_eq_true]
  refine ⟨⟨by omega, by omega⟩, by decide, fun d hd => ?_⟩
  obtain ⟨c, _, rfl⟩ := List.mem_map.1 (List.mem_of_mem_take hd)
  unfold prB
  rw [prC_toNat]
  simp; omega
theorem madeT_len (t : Bs) : 1 ≤ (madeT t).length ∧ (madeT t).length ≤ 50 := by
  unfold madeT; simp; omega
theorem madeE_valid (k o a b : Nat) (t : Bs) (ho : o < 256) (ha : a < 65536) : validE (madeE k o a b t) = true := by
  have h1 : inB (o : Int) 255 = true := by simp [inB]; omega
  unfold madeE
  split
  · simp [validE, fieldsB, fileB, inB]; omega
  · split
    · simp [validE, h1, fieldsB, symB, madeT_text]
    · split
      · simp [validE, fieldsB, linkB, inB]; omega
      · simp [validE, h1, fieldsB, dirB]

end Go.Proofs.Ytachicdkgkiiiaa
