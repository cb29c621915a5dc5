/-
  Plain functions on lists of bytes that say what package path computes, and lemmas on them. No program.
-/
import Derived.WalkKit
import Derived.Lib.Strings
namespace Go.Proofs.Yticlomakmcjcfaa
abbrev Bs := List UInt8
/-- A string of a list. -/
def Str (l : Bs) : ByteArray := ⟨l.toArray⟩

/-- A byte that a name may have. -/
def chB (c : UInt8) : Bool := decide (32 < c.toNat) && decide (c.toNat ≤ 126) && !(c == 47)
/-- A name. -/
def nameB (l : Bs) : Bool := !l.isEmpty && decide (l.length ≤ 12) && !(l == [46]) && !(l == [46, 46]) && l.all chB

/-- Where a byte stands first. -/
def idxOf (c : UInt8) : Bs → Option Nat
  | [] => none
  | x :: r => if x == c then some 0 else (idxOf c r).map (· + 1)

theorem idxOf_le {c : UInt8} {l : Bs} {n : Nat} (h : idxOf c l = some n) : n < l.length := by
  induction l generalizing n with
  | nil => simp [idxOf] at h
  | cons x r ih =>
    simp only [idxOf] at h
    split at h
    · simp at h; subst h; simp
    · cases h' : idxOf c r with
      | none => simp [h'] at h
      | some m => simp [h'] at h; subst h; have := ih h'; simp; omega

theorem idxOf_none {c : UInt8} {l : Bs} (h : ∀ i, i < l.length → l[i]? ≠ some c) : idxOf c l = none := by
  induction l with
  | nil => rfl
  | cons x r ih =>
    have hx : ¬ x = c := fun e => h 0 (by simp) (by simp [e])
    have hr := ih (fun i hi e => h (i + 1) (by simp; omega) (by simpa using e))
    simp [idxOf, hx, hr]

theorem idxOf_some {c : UInt8} {l : Bs} {n : Nat} (h1 : l[n]? = some c) (h2 : ∀ i, i < n → l[i]? ≠ some c) : idxOf c l = some n := by
  induction l generalizing n with
  | nil => simp at h1
  | cons x r ih =>
    cases n with
    | zero => simp at h1; simp [idxOf, h1]
    | succ n =>
      have hx : ¬ x = c := fun e => h2 0 (by omega) (by simp [e])
      have hr := ih (n := n) (by simpa using h1) (fun i hi e => h2 (i + 1) (by omega) (by simpa using e))
      simp [idxOf, hx, hr]

/-- A name and a slash in front: what comes after. -/
def nameStep (l : Bs) : Option Bs :=
  match idxOf 47 l with
  | none => none
  | some n => if nameB (l.take n) then some (l.drop (n + 1)) else none

theorem nameStep_lt {l r : Bs} (h : nameStep l = some r) : r.length < l.length := by
  unfold nameStep at h
  split at h
  · cases h
  · rename_i n hn
    have := idxOf_le hn
    split at h
    · simp at h; subst h; simp; omega
    · cases h

/-- What is left when all names in front are gone. -/
def restF : Nat → Bs → Bs
  | 0, l => l
  | k + 1, l => match nameStep l with
    | none => l
    | some r => restF k r
def restP (l : Bs) : Bs := restF l.length l

theorem restF_succ (k : Nat) : ∀ (l : Bs), l.length ≤ k → restF (k + 1) l = restF k l := by
  induction k with
  | zero => intro l h; have : l = [] := List.length_eq_zero_iff.1 (by omega); subst this; rfl
  | succ k ih =>
    intro l h
    rw [restF]
    conv => rhs; rw [restF]
    split
    · rfl
    · rename_i r hr
      exact ih r (by have := nameStep_lt hr; omega)

theorem restF_add (l : Bs) (d : Nat) : restF (l.length + d) l = restP l := by
  induction d with
  | zero => rfl
  | succ d ih => rw [← ih, ← Nat.add_assoc, restF_succ _ _ (by omega)]

theorem restF_le {k : Nat} {l : Bs} (h : l.length ≤ k) : restF k l = restP l := by
  have := restF_add l (k - l.length)
  rwa [Nat.add_sub_cancel' h] at this

theorem restP_none {l : Bs} (h : nameStep l = none) : restP l = l := by
  rw [← restF_le (Nat.le_succ l.length), restF, h]

theorem restP_some {l r : Bs} (h : nameStep l = some r) : restP l = restP r := by
  rw [← restF_le (Nat.le_succ l.length), restF, h]
  exact restF_le (by have := nameStep_lt h; omega)

theorem restP_length (l : Bs) : (restP l).length ≤ l.length := by
  suffices h : ∀ k (l : Bs), l.length ≤ k → (restP l).length ≤ l.length from h _ l (Nat.le_refl _)
  intro k
  induction k with
  | zero => intro l h; have : l = [] := List.length_eq_zero_iff.1 (by omega); subst this; exact Nat.le_refl _
  | succ k ih =>
    intro l h
    cases hn : nameStep l with
    | none => rw [restP_none hn]; exact Nat.le_refl _
    | some r => rw [restP_some hn]; have := nameStep_lt hn; have := ih r (by omega); omega

/-- A path. -/
def validB (l : Bs) : Bool := restP l == []
/-- The path in front. -/
def pathP (l : Bs) : Bs := l.take (l.length - (restP l).length)

/-- A digit of a body. -/
def digB (n : Int) : Bool := (decide (48 ≤ n) && decide (n ≤ 57)) || (decide (97 ≤ n) && decide (n ≤ 102))
/-- A body. -/
def bodyB (l : Bs) : Bool :=
  decide (l.length = 10) && (l[0]? == some 5) && (l[9]? == some 47) && ((l.drop 1).take 8).all (fun c => digB c.toNat) && (l[1]?.any fun c => decide (c.toNat ≤ 55))

/-- The owner in front, and what comes after. -/
def ownP (l : Bs) : Bs × Bs :=
  if 10 ≤ l.length ∧ bodyB (l.take 10) = true then (l.take 10, l.drop 10) else (pathP l, restP l)

/-- What the parser of a key holds. -/
structure PSt where
  rest : Bs
  path : Bs
  tag : Int
  n : Int
  name : Bs

def blockS (s : PSt) : Bool × PSt :=
  match s.rest with
  | x :: y :: r => (decide ((x.toNat : Int) * 256 + y.toNat ≤ 60000), { s with rest := r, n := (x.toNat : Int) * 256 + y.toNat })
  | _ => (false, s)
def attrS (s : PSt) : Bool × PSt := (nameB s.rest, { s with rest := [], name := s.rest })
def taggedS (s : PSt) : Bool × PSt :=
  match s.rest with
  | [] => (false, s)
  | x :: r =>
    let t : PSt := { s with rest := r, tag := x.toNat }
    if (x.toNat : Int) = 1 then (true, t) else if (x.toNat : Int) = 2 then blockS t else if (x.toNat : Int) = 3 then attrS t else (false, t)
/-- The byte n in front: what comes after. -/
def markS (n : Int) : Bs → Option Bs
  | [] => none
  | x :: r => if (x.toNat : Int) = n then some r else none
def keyS (s : PSt) : Bool × PSt :=
  match markS 6 s.rest with
  | some r =>
    let t : PSt := ⟨restP r, pathP r, 4, 0, []⟩
    ((markS 1 t.rest).isSome, { t with rest := (markS 1 t.rest).getD t.rest })
  | none => taggedS { s with path := (ownP s.rest).1, rest := (ownP s.rest).2 }

/-- What Place tells of a key. -/
def placeS (k : Bs) : Option PSt :=
  let f := keyS ⟨k, [], 0, 0, []⟩
  if f.1 = true ∧ f.2.rest = [] then some f.2 else none

/-- The path that is typed so; or the number of an error. -/
def parseS (l : Bs) : Bs × Int :=
  if l = [47] then ([], 0) else if l = [] ∨ ¬ l[0]? = some 47 ∨ 200 < l.length then ([], 10) else if validB (l.tail ++ [47]) = true then (l.tail ++ [47], 0) else ([], 10)
def joinS (p m : Bs) : Bs × Int :=
  if validB p = true then if nameB m = true then if p.length + m.length + 1 ≤ 200 then (p ++ m ++ [47], 0) else ([], 2) else ([], 11) else ([], 10)
/-- How many bytes stand up to the last slash, it with them. -/
def lastCut : Bs → Nat
  | [] => 0
  | x :: r => if lastCut r = 0 then (if x = 47 then 1 else 0) else lastCut r + 1
theorem lastCut_le (l : Bs) : lastCut l ≤ l.length := by
  induction l with
  | nil => exact Nat.le_refl _
  | cons x r ih => simp only [lastCut, List.length_cons]; split <;> (try split) <;> omega
def splitS (p : Bs) : Bs × Bs × Int :=
  if validB p = true then
    if p = [] then ([], [], 337) else
    let names := p.take (p.length - 1)
    (names.take (lastCut names), names.drop (lastCut names), 0)
  else ([], [], 10)
def textS (p : Bs) : Bs := 47 :: Lib.trimSuffix p [47]

theorem lastCut_zero {l : Bs} (h : ∀ i : Nat, l[i]? ≠ some 47) : lastCut l = 0 := by
  induction l with
  | nil => rfl
  | cons x r ih =>
    have h1 := ih (fun i => by have := h (i + 1); simpa using this)
    have h2 : ¬ x = 47 := fun e => h 0 (by simp [e])
    simp [lastCut, h1, h2]
theorem lastCut_pos {l : Bs} {i : Nat} (h : l[i]? = some 47) (hj : ∀ j : Nat, i < j → l[j]? ≠ some 47) : lastCut l = i + 1 := by
  induction l generalizing i with
  | nil => simp at h
  | cons x r ih =>
    cases i with
    | zero =>
      have h1 : lastCut r = 0 := lastCut_zero (fun j => by have := hj (j + 1) (by omega); simpa using this)
      simp at h
      simp [lastCut, h1, h]
    | succ i =>
      have h1 := ih (i := i) (by simpa using h) (fun j hj' => by have := hj (j + 1) (by omega); simpa using this)
      simp [lastCut, h1]

def ownsS (t : Int) (p : Bs) : Bool := if t = 1 ∨ t = 2 ∨ t = 3 then validB p || bodyB p else if t = 4 then validB p else false
def fitsS (t n : Int) (m : Bs) : Bool :=
  if t = 2 then decide (0 ≤ n) && decide (n ≤ 60000) && m.isEmpty else if t = 3 then decide (n = 0) && nameB m else decide (n = 0) && m.isEmpty
def keyK (t : Int) (p : Bs) (n : Int) (m : Bs) : Bs :=
  if t = 2 then p ++ [2, (n / 256).toNat.toUInt8, (n % 256).toNat.toUInt8] else if t = 3 then p ++ [3] ++ m else if t = 4 then [6] ++ p ++ [1] else p ++ [1]
def keyF (p : Bs) (t n : Int) (m : Bs) : Bs × Int := if ownsS t p = true ∧ fitsS t n m = true then (keyK t p n m, 0) else ([], 12)

/-- A digit of a body. -/
def hexD (n : Nat) : UInt8 := ([48, 49, 50, 51, 52, 53, 54, 55, 56, 57, 97, 98, 99, 100, 101, 102] : Bs).getD n 0
def hexL : Nat → Nat → Bs
  | 0, _ => []
  | k + 1, n => hexL k (n / 16) ++ [hexD (n % 16)]
def bodyN (n : Nat) : Bs := 5 :: hexL 8 n ++ [47]
def bodyS (n : Int) : Bs := if n < 0 ∨ 2147483647 < n then [] else bodyN n.toNat

/-- The eight names of the reference. -/
def callS (n : Nat) : Bs := ([[97], [98], [97, 48], [126], [33], [120, 46, 121], [116, 119, 101, 108, 118, 101, 108, 101, 116, 116, 101, 114], [46, 46, 46]] : List Bs).getD (n % 8) []
theorem callS_le (n : Nat) : (callS n).length ≤ 12 := by
  unfold callS
  have h : n % 8 = 0 ∨ n % 8 = 1 ∨ n % 8 = 2 ∨ n % 8 = 3 ∨ n % 8 = 4 ∨ n % 8 = 5 ∨ n % 8 = 6 ∨ n % 8 = 7 := by omega
  rcases h with h | h | h | h | h | h | h | h <;> rw [h] <;> decide
def madeL (l : Bs) : Bs := l.flatMap fun c => callS c.toNat ++ [47]
theorem madeL_snoc (l : Bs) (c : UInt8) : madeL (l ++ [c]) = madeL l ++ (callS c.toNat ++ [47]) := by simp [madeL]
theorem madeL_le (l : Bs) : (madeL l).length ≤ 13 * l.length := by
  induction l with
  | nil => simp [madeL]
  | cons c r ih =>
    have : madeL (c :: r) = (callS c.toNat ++ [47]) ++ madeL r := by simp [madeL]
    rw [this]
    have := callS_le c.toNat
    simp only [List.length_append, List.length_cons, List.length_nil]
    omega
/-- The path that the reference makes of a list of numbers. -/
def madeS (l : Bs) : Bs := madeL (l.take 4)
theorem madeS_le (l : Bs) : (madeS l).length ≤ 52 := by
  have := madeL_le (l.take 4)
  have h : (l.take 4).length ≤ 4 := List.length_take_le _ _
  unfold madeS; omega

/-- A place that the reference makes. -/
def rawPath (l : Bs) (t n : Nat) : Bs := if 64 ≤ t ∧ ¬ t % 4 = 3 then bodyS ((n : Int) * 257) else madeS l
def rawN (t n : Nat) : Int := if t % 4 = 1 then ((n % 60001 : Nat) : Int) else 0
def rawM (t n : Nat) : Bs := if t % 4 = 2 then callS (n % 8) else []

end Go.Proofs.Yticlomakmcjcfaa
