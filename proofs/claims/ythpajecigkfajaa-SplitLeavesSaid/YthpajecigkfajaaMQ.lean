/-
  Walks: Parse.
-/
import Derived.Test.YthpajecigkfajaaKB
namespace Go.Proofs.Ythpajecigkfajaa
open Go.RowKit Go.Sort
set_option linter.unusedVariables false

def stepT (x : Array Value × RS) (o : Nat) : Array Value × RS := (x.1.setIfInBounds o (.string (Str (textP x.2).1)), (textP x.2).2)
def stepN (x : Array Value × RS) (o : Nat) : Array Value × RS := (x.1.setIfInBounds o (.int .i64 ((numP 4 x.2).1 : Nat)), (numP 4 x.2).2)
def readTs (os : List Nat) (x : Array Value × RS) : Array Value × RS := os.foldl stepT x
def readNs (os : List Nat) (x : Array Value × RS) : Array Value × RS := os.foldl stepN x
theorem readTs_take (os : List Nat) (x : Array Value × RS) (k : Nat) (h : k < os.length) : readTs (os.take (k + 1)) x = stepT (readTs (os.take k) x) os[k] := by
  unfold readTs; rw [List.take_add_one, List.getElem?_eq_getElem h, List.foldl_append]; rfl
theorem readNs_take (os : List Nat) (x : Array Value × RS) (k : Nat) (h : k < os.length) : readNs (os.take (k + 1)) x = stepN (readNs (os.take k) x) os[k] := by
  unfold readNs; rw [List.take_add_one, List.getElem?_eq_getElem h, List.foldl_append]; rfl
theorem readTs_size (os : List Nat) (x : Array Value × RS) : (readTs os x).1.size = x.1.size := by
  unfold readTs
  induction os generalizing x with
  | nil => rfl
  | cons o os ih => rw [List.foldl_cons, ih]; simp [stepT]
theorem readNs_size (os : List Nat) (x : Array Value × RS) : (readNs os x).1.size = x.1.size := by
  unfold readNs
  induction os generalizing x with
  | nil => rfl
  | cons o os ih => rw [List.foldl_cons, ih]; simp [stepN]
/-- The message that is read, behind its kind, and what is left. -/
def restM (k : Int) (s : RS) : Ms × RS :=
  let a := textP s
  let b := textP a.2
  let n := numP 4 b.2
  if k = 1 then ({ zeroM k with key := a.1, val := b.1, n := (n.1 : Nat) }, n.2)
  else if k = 2 then ({ zeroM k with key := a.1 }, a.2)
  else if k = 3 then ({ zeroM k with lo := a.1, hi := b.1 }, b.2)
  else if k = 4 then ({ zeroM k with src := a.1, dst := b.1 }, b.2)
  else if k = 5 then ({ zeroM k with src := a.1, dst := b.1 }, b.2)
  else if k = 6 then ({ zeroM k with lo := a.1, hi := b.1, n := (n.1 : Nat) }, n.2)
  else (zeroM k, s)
theorem read_all (k : Int) (s : RS) : readNs (nOff k) (readTs (tOff k) (encM (zeroM k), s)) = (encM (restM k s).1, (restM k s).2) := by
  unfold tOff nOff restM
  by_cases h1 : k = 1
  · subst h1; simp [readTs, readNs, stepT, stepN, zeroM]
  by_cases h2 : k = 2
  · subst h2; simp [readTs, readNs, stepT, zeroM]
  by_cases h3 : k = 3
  · subst h3; simp [readTs, readNs, stepT, zeroM]
  by_cases h4 : k = 4
  · subst h4; simp [readTs, readNs, stepT, zeroM]
  by_cases h5 : k = 5
  · subst h5; simp [readTs, readNs, stepT, zeroM]
  by_cases h6 : k = 6
  · subst h6; simp [readTs, readNs, stepT, stepN, zeroM]
  simp [h1, h2, h3, h4, h5, h6, readTs, readNs]
theorem takeP_rest (k : Nat) (s : RS) : (takeP k s).2.1.length ≤ s.1.length := by
  unfold takeP; split
  · exact Nat.le_refl _
  · simp only [List.length_drop]; omega
theorem numP_len (k : Nat) (s : RS) : (numP k s).2.1.length ≤ s.1.length := takeP_rest k s
theorem textP_len (s : RS) : (textP s).2.1.length ≤ s.1.length := Nat.le_trans (takeP_rest _ _) (numP_len 2 s)
theorem restM_len (k : Int) (s : RS) : (restM k s).2.1.length ≤ s.1.length := by
  have h1 := textP_len s
  have h2 := textP_len (textP s).2
  have h3 := numP_len 4 (textP (textP s).2).2
  unfold restM
  simp only
  split
  · simp only; omega
  split
  · simp only; omega
  split
  · simp only; omega
  split
  · simp only; omega
  split
  · simp only; omega
  split
  · simp only; omega
  exact Nat.le_refl _
/-- The message at the beginning of bytes, and their number. -/
def parseS (b : Bs) : Option (Ms × Nat) :=
  let x := restM ((numP 1 (b, false)).1 : Nat) (numP 1 (b, false)).2
  if x.2.2 = true ∨ validM x.1 = false then none else some (x.1, b.length - x.2.1.length)
def parseV (b : Bs) : Value := match parseS b with
  | some (m, n) => .tuple #[msgV m, .int .i64 n, .int .i64 0]
  | none => .tuple #[msgV (zeroM 0), .int .i64 0, .int .i64 3]

/-- No cell of a message is a byte. -/
def NoU8 (cs : Array Value) : Prop := ∀ x ∈ cs, ∀ n : Nat, x ≠ .int .u8 n
theorem noU8_enc (m : Ms) : NoU8 (encM m) := by
  intro x hx n
  simp at hx
  rcases hx with rfl | rfl | rfl | rfl | rfl | rfl | rfl | rfl <;> simp
theorem NoU8.set {cs : Array Value} (h : NoU8 cs) (o : Nat) {v : Value} (hv : ∀ n : Nat, v ≠ .int .u8 n) : NoU8 (cs.setIfInBounds o v) := by
  intro x hx n
  rcases Array.mem_or_eq_of_mem_setIfInBounds hx with h1 | rfl
  · exact h x h1 n
  · exact hv n

/-- What stays while the result is laid. -/
structure FinSt (w : World) (m : Ms) (x : Value) (wx : World) : Prop where
  m : MBlk wx (w.heap.size + 2) m
  b : Blk wx w.heap.size 59 (encM (zeroM 0))
  r : wx.cell? ⟨w.heap.size + 1, 0, none⟩ = some x
  g : Below w.heap.size w wx
theorem FinSt.drew {w wx : World} {m : Ms} {x : Value} (h : FinSt w m x wx) : FinSt w m x wx.drew := ⟨h.m, h.b, h.r, h.g.trans (below_drewN _ 1)⟩

end Go.Proofs.Ythpajecigkfajaa
