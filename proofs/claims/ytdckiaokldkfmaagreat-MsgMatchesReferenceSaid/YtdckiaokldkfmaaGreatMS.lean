/-
  Plain messages: what package msg computes, and facts on it. No program.
-/
import Derived.Test.YtdckiaokldkfmaaGreatTS2
namespace Go.Proofs.YtdckiaokldkfmaaGreat
set_option linter.unusedVariables false

/-- A message. -/
structure Ms where
  kind : Int
  key : Bs
  val : Bs
  lo : Bs
  hi : Bs
  src : Bs
  dst : Bs
  n : Int
def Ms.one (m : Ms) : Int × Bs × Bs × Int := (m.kind, m.key, m.val, m.n)
def Ms.two (m : Ms) : Bs × Bs × Bs × Bs := (m.lo, m.hi, m.src, m.dst)
theorem Ms.ext' {a b : Ms} (h : a.one = b.one) (k : a.two = b.two) : a = b := by
  cases a; cases b; simp [Ms.one] at h; simp [Ms.two] at k; simp [h, k]
instance : DecidableEq Ms := fun a b =>
  if h : a.one = b.one then (if k : a.two = b.two then .isTrue (Ms.ext' h k) else .isFalse fun e => k (by rw [e])) else .isFalse fun e => h (by rw [e])
/-- A message of a kind, without fields. -/
def zeroM (k : Int) : Ms := ⟨k, [], [], [], [], [], [], 0⟩
/-- A message without the fields of its kind. -/
def bareM (m : Ms) : Ms :=
  if m.kind = 1 then { m with key := [], val := [], n := 0 }
  else if m.kind = 2 then { m with key := [] }
  else if m.kind = 3 then { m with lo := [], hi := [] }
  else if m.kind = 4 then { m with src := [], dst := [] }
  else if m.kind = 5 then { m with src := [], dst := [] }
  else if m.kind = 6 then { m with lo := [], hi := [], n := 0 }
  else m
def keyB (k : Bs) : Bool := decide (1 ≤ k.length ∧ k.length ≤ 65535)
def stampB (n : Int) : Bool := decide (0 ≤ n ∧ n ≤ 1000000000)
def spanB (lo hi : Bs) : Bool := !emptyB (lo, hi) && (decide (lo.length ≤ 65535) && decide (hi.length ≤ 65535))
def frontB (p : Bs) : Bool := decide (1 ≤ p.length ∧ p.length ≤ 200)
def apartB (a b : Bs) : Bool := frontB a && (frontB b && (!b.isPrefixOf a && !a.isPrefixOf b))
/-- The fields of the kind are in their ranges. -/
def fitsB (m : Ms) : Bool :=
  if m.kind = 1 then keyB m.key && (decide (m.val.length ≤ 64) && stampB m.n)
  else if m.kind = 2 then keyB m.key
  else if m.kind = 3 then spanB m.lo m.hi
  else if m.kind = 4 then apartB m.src m.dst
  else if m.kind = 5 then apartB m.src m.dst
  else if m.kind = 6 then spanB m.lo m.hi && stampB m.n
  else false
def validM (m : Ms) : Bool := fitsB m && decide (bareM m = zeroM m.kind)

/-- Effects. -/
def stampP (s : Sp) (n : Int) (x : Pr) : Pr := if hasB s x.1 then (x.1, x.2.1, n) else x
def stampT (s : Sp) (n : Int) (t : List Pr) : List Pr := t.map (stampP s n)
def preS (p : Bs) : Sp := (p, preT p)
def cloneT (a b : Bs) (t : List Pr) : List Pr := unionS (dropS (preS b) t) (movedT a b t)
def moveT (a b : Bs) (t : List Pr) : List Pr := dropS (preS a) (cloneT a b t)
def applyS (m : Ms) (t : List Pr) : List Pr :=
  if m.kind = 1 then putS (m.key, m.val, m.n) t
  else if m.kind = 2 then delS m.key t
  else if m.kind = 3 then dropS (m.lo, m.hi) t
  else if m.kind = 4 then moveT m.src m.dst t
  else if m.kind = 5 then cloneT m.src m.dst t
  else if m.kind = 6 then stampT (m.lo, m.hi) m.n t
  else t
def allS (l : List Ms) (t : List Pr) : List Pr := l.foldl (fun t m => applyS m t) t
def readsS (m : Ms) : List Sp :=
  if m.kind = 4 then [preS m.src] else if m.kind = 5 then [preS m.src] else if m.kind = 6 then [(m.lo, m.hi)] else []
def writesS (m : Ms) : List Sp :=
  if m.kind = 1 then [oneS m.key] else if m.kind = 2 then [oneS m.key] else if m.kind = 3 then [(m.lo, m.hi)]
  else if m.kind = 4 then [preS m.src, preS m.dst] else if m.kind = 5 then [preS m.dst] else if m.kind = 6 then [(m.lo, m.hi)] else []
def killsS (m : Ms) : List Sp := if m.kind = 6 then [] else writesS m
def touchB (l m : List Sp) : Bool := l.any fun s => m.any fun o => !emptyB (meetS s o)
def distB (m o : Ms) : Bool := touchB (writesS m) (readsS o) || touchB (writesS m) (writesS o)
def freeB (m o : Ms) : Bool := !distB m o && !distB o m

/-- Bytes. -/
def numF (l : Bs) : Nat := l.foldl (fun n c => 256 * n + c.toNat) 0
def bytesN : Nat → Nat → Bs
  | 0, _ => []
  | k + 1, n => bytesN k (n / 256) ++ [(n % 256).toUInt8]
def textB (s : Bs) : Bs := bytesN 2 s.length ++ s
def fieldsT (m : Ms) : List Bs :=
  if m.kind = 1 then [m.key, m.val] else if m.kind = 2 then [m.key] else if m.kind = 3 then [m.lo, m.hi]
  else if m.kind = 4 then [m.src, m.dst] else if m.kind = 5 then [m.src, m.dst] else if m.kind = 6 then [m.lo, m.hi] else []
def fieldsN (m : Ms) : List Int := if m.kind = 1 then [m.n] else if m.kind = 6 then [m.n] else []
def bytesM (m : Ms) : Bs := if validM m then bytesN 1 m.kind.toNat ++ (fieldsT m).flatMap textB ++ (fieldsN m).flatMap (fun n => bytesN 4 n.toNat) else []

theorem kind_cases (m : Ms) (h : validM m = true) : m.kind = 1 ∨ m.kind = 2 ∨ m.kind = 3 ∨ m.kind = 4 ∨ m.kind = 5 ∨ m.kind = 6 := by
  unfold validM fitsB at h
  by_cases h1 : m.kind = 1
  · exact .inl h1
  by_cases h2 : m.kind = 2
  · exact .inr (.inl h2)
  by_cases h3 : m.kind = 3
  · exact .inr (.inr (.inl h3))
  by_cases h4 : m.kind = 4
  · exact .inr (.inr (.inr (.inl h4)))
  by_cases h5 : m.kind = 5
  · exact .inr (.inr (.inr (.inr (.inl h5))))
  by_cases h6 : m.kind = 6
  · exact .inr (.inr (.inr (.inr (.inr h6))))
  rw [if_neg h1, if_neg h2, if_neg h3, if_neg h4, if_neg h5, if_neg h6] at h
  simp at h

end Go.Proofs.YtdckiaokldkfmaaGreat
