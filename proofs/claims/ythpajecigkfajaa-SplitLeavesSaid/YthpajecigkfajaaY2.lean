/-
  Walks: what package node asks of pairs, kids, bounds and pivots. Walks: Valid of package node, with the functions that it hands over. Walks: Valid of package node.
-/
import Derived.Test.YthpajecigkfajaaY1
import Derived.Test.YthpajecigkfajaaCV
namespace Go.Proofs.Ythpajecigkfajaa
open Go.RowKit Go.Sort
set_option linter.unusedVariables false

def pairB (p : Pr) : Bool := decide (p.1 ≠ [] ∧ p.1.length ≤ 65535 ∧ p.2.1.length ≤ 64 ∧ 0 ≤ p.2.2 ∧ p.2.2 ≤ 1000000000)
def kidB (k : Int) : Bool := decide (0 ≤ k ∧ k < 4096)
def rangeB (r : Rg) : Bool := decide (0 ≤ r.1 ∧ r.1 ≤ r.2 ∧ r.2 ≤ 1000000000000000)
def sumB (s : Sm) : Bool := rangeB s.1 && rangeB s.2
def textFB (s : Bs) : Bool := decide (s.length ≤ 65535)
/-- Pivots that grow, from a text on, all of them in a span. -/
def pivB (s : Sp) : Bs → List Bs → Bool
  | _, [] => true
  | last, p :: r => Op.bytesLess last p && (hasB s p && pivB s p r)
theorem ne_isEmpty {k : Bs} (h : k ≠ []) : k.isEmpty = false := by cases k with
  | nil => exact absurd rfl h
  | cons a r => rfl

theorem less_facts {a b : Bs} (h : Op.bytesLess a b = true) : Op.bytesLess b a = false ∧ (b == a) = false := by
  have h2 := less_asymm h
  refine ⟨h2, ?_⟩
  cases hh : b == a with
  | false => rfl
  | true =>
    have : b = a := by simpa using hh
    rw [this, less_irrefl] at h; cases h
theorem nless_facts {a b : Bs} (h : Op.bytesLess a b = false) : (Op.bytesLess b a || b == a) = true := by
  cases h2 : Op.bytesLess b a with
  | true => rfl
  | false => rw [less_total a b h h2]; simp

end Go.Proofs.Ythpajecigkfajaa
namespace Go.Proofs.Ythpajecigkfajaa
open Go.RowKit Go.Sort
set_option linter.unusedVariables false

/-- A right message has short texts. -/
theorem valid_lens {m : Ms} (h : validM m = true) : m.key.length ≤ 65535 ∧ m.val.length ≤ 64 ∧ m.lo.length ≤ 65535 ∧ m.hi.length ≤ 65535 ∧ m.src.length ≤ 200 ∧ m.dst.length ≤ 200 := by
  obtain ⟨kd, ky, va, lo, hi, sr, ds, n⟩ := m
  unfold validM at h
  rw [Bool.and_eq_true, decide_eq_true_eq] at h
  obtain ⟨hf, hb⟩ := h
  unfold fitsB at hf
  unfold bareM zeroM at hb
  dsimp only at hf hb ⊢
  by_cases h1 : kd = 1
  · subst h1
    simp [keyB, stampB] at hf hb
    obtain ⟨rfl, rfl, rfl, rfl⟩ := hb
    simp; omega
  by_cases h2 : kd = 2
  · subst h2
    simp [keyB] at hf hb
    obtain ⟨rfl, rfl, rfl, rfl, rfl, rfl⟩ := hb
    simp; omega
  by_cases h3 : kd = 3
  · subst h3
    simp [spanB] at hf hb
    obtain ⟨rfl, rfl, rfl, rfl, rfl⟩ := hb
    simp; omega
  by_cases h4 : kd = 4
  · subst h4
    simp [apartB, frontB] at hf hb
    obtain ⟨rfl, rfl, rfl, rfl, rfl⟩ := hb
    simp; omega
  by_cases h5 : kd = 5
  · subst h5
    simp [apartB, frontB] at hf hb
    obtain ⟨rfl, rfl, rfl, rfl, rfl⟩ := hb
    simp; omega
  by_cases h6 : kd = 6
  · subst h6
    simp [spanB, stampB] at hf hb
    obtain ⟨rfl, rfl, rfl, rfl⟩ := hb
    simp; omega
  simp [h1, h2, h3, h4, h5, h6] at hf
theorem valid_sizeM {m : Ms} (h : validM m = true) : SizeM m := by
  have := valid_lens h
  unfold SizeM; omega

/-- All that a message reads and writes is in a span. -/
def staysB (s : Sp) (m : Ms) : Bool := (readsS m).all (coversB s) && (writesS m).all (coversB s)
def bufB (s : Sp) (m : Ms) : Bool := validM m && staysB s m
def leafPB (s : Sp) (p : Pr) : Bool := pairB p && hasB s p.1
def leafB (n : Nd) (s : Sp) : Bool := n.pivots.isEmpty && (n.sums.isEmpty && (n.buf.isEmpty && (validB n.pairs && n.pairs.all (leafPB s))))
def innerB (n : Nd) (s : Sp) : Bool := n.pairs.isEmpty && (decide (n.sums.length = n.kids.length) && (decide (n.pivots.length + 1 = n.kids.length) && (n.kids.all kidB && (pivB s s.1 n.pivots && (n.sums.all sumB && n.buf.all (bufB s))))))
def validN (n : Nd) (s : Sp) : Bool := if n.kids = [] then leafB n s else innerB n s

theorem blkG {w wx : World} {b : Nat} {T : TypeId} {cs : Array Value} (h : Blk w b T cs) (hg : Grown w wx) : Blk wx b T cs := hg.blk h
theorem MBlk8 {w : World} {b : Nat} {T : TypeId} {m : Ms} (h : Blk w b T (encM m)) :
    w.cell? ⟨b, 0, none⟩ = some (.int .i64 m.kind) ∧ w.cell? ⟨b, 1, none⟩ = some (.string (Str m.key)) ∧ w.cell? ⟨b, 2, none⟩ = some (.string (Str m.val)) ∧ w.cell? ⟨b, 3, none⟩ = some (.string (Str m.lo)) ∧
    w.cell? ⟨b, 4, none⟩ = some (.string (Str m.hi)) ∧ w.cell? ⟨b, 5, none⟩ = some (.string (Str m.src)) ∧ w.cell? ⟨b, 6, none⟩ = some (.string (Str m.dst)) ∧ w.cell? ⟨b, 7, none⟩ = some (.int .i64 m.n) :=
  ⟨h.c0 0 _ rfl, h.c0 1 _ rfl, h.c0 2 _ rfl, h.c0 3 _ rfl, h.c0 4 _ rfl, h.c0 5 _ rfl, h.c0 6 _ rfl, h.c0 7 _ rfl⟩
end Go.Proofs.Ythpajecigkfajaa
namespace Go.Proofs.Ythpajecigkfajaa
open Go.RowKit Go.Sort
set_option linter.unusedVariables false

theorem len_pos {α : Type} {l : List α} (h : l ≠ []) : (0 : Int) < (l.length : Int) := by
  have : l.length ≠ 0 := fun e => h (List.length_eq_zero_iff.1 e)
  omega
theorem len_posN {α : Type} {l : List α} (h : l ≠ []) : 0 < l.length := by
  have : l.length ≠ 0 := fun e => h (List.length_eq_zero_iff.1 e)
  omega
theorem ne_isEmpty' {α : Type} {l : List α} (h : l ≠ []) : l.isEmpty = false := by cases l with
  | nil => exact absurd rfl h
  | cons a r => rfl
theorem Grown.drewN (w : World) (n : Nat) : Grown w (w.drewN n) := ⟨n, #[], by rw [grow_empty]⟩
theorem IsNode.pairs {w : World} {v : Value} {n : Nd} (h : IsNode w v n) : ∃ a b c d e, v = .agg #[a, b, c, d, e] ∧ IsPairs w a n.pairs := by
  obtain ⟨a, b, c, d, e, h0, h1, h2⟩ := h; exact ⟨a, b, c, d, e, h0, h1⟩

end Go.Proofs.Ythpajecigkfajaa
