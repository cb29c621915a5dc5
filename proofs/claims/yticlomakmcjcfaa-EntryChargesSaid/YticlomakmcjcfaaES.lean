/-
  Plain functions that say what package entry computes, and lemmas on them. No program.
-/
import Derived.Test.YticlomakmcjcfaaS1
namespace Go.Proofs.Yticlomakmcjcfaa

/-- A number in a range that begins at 0. -/
def inB (n m : Int) : Bool := decide (0 ≤ n) && decide (n ≤ m)
/-- A byte of a symbolic link's text. -/
def prB (c : UInt8) : Bool := decide (32 ≤ c.toNat) && decide (c.toNat ≤ 126)
def textB (l : Bs) : Bool := decide (1 ≤ l.length) && decide (l.length ≤ 50) && l.all prB
/-- The number that bytes are. -/
def numF (l : Bs) : Nat := l.foldl (fun n c => 256 * n + c.toNat) 0
theorem numF_snoc (l : Bs) (c : UInt8) : numF (l ++ [c]) = 256 * numF l + c.toNat := by simp [numF]
theorem numF_lt (l : Bs) : numF l < 256 ^ l.length := by
  suffices h : ∀ (k : Nat) (l : Bs), l.length = k → numF l < 256 ^ k from h _ l rfl
  intro k
  induction k with
  | zero => intro l h; rw [List.length_eq_zero_iff.1 h]; decide
  | succ k ih =>
    intro l h
    obtain ⟨r, c, rfl⟩ : ∃ r c, l = r ++ [c] := by
      have hne : l ≠ [] := by rintro rfl; simp at h
      exact ⟨l.dropLast, l.getLast hne, (List.dropLast_concat_getLast hne).symm⟩
    rw [numF_snoc, Nat.pow_succ]
    have := ih r (by simp at h; exact h)
    have hc : c.toNat < 256 := c.toNat_lt
    omega
/-- The last bytes of a number. -/
def bytesN : Nat → Nat → Bs
  | 0, _ => []
  | k + 1, n => bytesN k (n / 256) ++ [(n % 256).toUInt8]
theorem bytesN_len (k n : Nat) : (bytesN k n).length = k := by
  induction k generalizing n with
  | zero => rfl
  | succ k ih => simp [bytesN, ih]
theorem numF_bytesN (k n : Nat) : numF (bytesN k n) = n % 256 ^ k := by
  induction k generalizing n with
  | zero => simp [bytesN, numF, Nat.mod_one]
  | succ k ih =>
    rw [bytesN, numF_snoc, ih]
    have h : ((n % 256).toUInt8).toNat = n % 256 := by simp
    rw [h, Nat.pow_succ, Nat.mul_comm (256 ^ k) 256, Nat.mod_mul, Nat.add_comm]
theorem bytesN_numF (l : Bs) : bytesN l.length (numF l) = l := by
  suffices h : ∀ (k : Nat) (l : Bs), l.length = k → bytesN k (numF l) = l from h _ l rfl
  intro k
  induction k with
  | zero => intro l h; rw [List.length_eq_zero_iff.1 h]; rfl
  | succ k ih =>
    intro l h
    obtain ⟨r, c, rfl⟩ : ∃ r c, l = r ++ [c] := by
      have hne : l ≠ [] := by rintro rfl; simp at h
      exact ⟨l.dropLast, l.getLast hne, (List.dropLast_concat_getLast hne).symm⟩
    have hc : c.toNat < 256 := c.toNat_lt
    rw [bytesN, numF_snoc, show (256 * numF r + c.toNat) / 256 = numF r from by omega, ih r (by simp at h; exact h),
      show (256 * numF r + c.toNat) % 256 = c.toNat from by omega]
    simp

/-- An entry. -/
structure Ent where
  kind : Int
  size : Int
  links : Int
  id : Int
  owner : Int
  text : Bs
deriving DecidableEq
def Ent.zero : Ent := ⟨0, 0, 0, 0, 0, []⟩

/-- Two entries agree in all fields. -/
def entEq (a b : Ent) : Bool := decide (a = b)
theorem entEq_self (a : Ent) : entEq a a = true := by simp [entEq]

/-- The fields that are there beside kind and owner are in their ranges, and all others are zero. -/
def dirB (e : Ent) : Bool := decide (e.size = 0) && decide (e.links = 0) && decide (e.id = 0) && decide (e.text = [])
def fileB (e : Ent) : Bool := inB e.size 60000 && inB e.links 1000 && decide (e.id = 0) && decide (e.text = [])
def symB (e : Ent) : Bool := decide (e.size = 0) && decide (e.links = 0) && decide (e.id = 0) && textB e.text
def linkB (e : Ent) : Bool := decide (e.size = 0) && decide (e.links = 0) && decide (e.text = []) && inB e.id 2147483647
def fieldsB (e : Ent) : Bool :=
  if e.kind = 1 then dirB e else if e.kind = 2 then fileB e else if e.kind = 3 then symB e else if e.kind = 4 then linkB e else false
/-- A valid entry. -/
def validE (e : Ent) : Bool := inB e.owner 255 && fieldsB e
/-- What comes after kind and owner. -/
def tailE (e : Ent) : Bs :=
  if e.kind = 2 then bytesN 2 e.size.toNat ++ bytesN 2 e.links.toNat else if e.kind = 3 then e.text else if e.kind = 4 then bytesN 4 e.id.toNat else []
def valueE (e : Ent) : Bs := [e.kind.toNat.toUInt8, e.owner.toNat.toUInt8] ++ tailE e
/-- The value, and the number of the error. -/
def encE (e : Ent) : Bs × Int := if validE e = true then (valueE e, 0) else ([], 30)
/-- The fields that are read. -/
def readE (k : Nat) (l : Bs) : Option Ent :=
  if k = 1 then (if l = [] then some Ent.zero else none)
  else if k = 2 then (if l.length = 4 then some { Ent.zero with size := numF (l.take 2), links := numF (l.drop 2) } else none)
  else if k = 3 then some { Ent.zero with text := l }
  else if k = 4 then (if l.length = 4 then some { Ent.zero with id := numF l } else none)
  else none
def decE (v : Bs) : Ent × Int :=
  match v with
  | k :: o :: r =>
    match readE k.toNat r with
    | some e => if validE { e with kind := k.toNat, owner := o.toNat } = true then ({ e with kind := k.toNat, owner := o.toNat }, 0) else (Ent.zero, 30)
    | none => (Ent.zero, 30)
  | _ => (Ent.zero, 30)

end Go.Proofs.Yticlomakmcjcfaa
