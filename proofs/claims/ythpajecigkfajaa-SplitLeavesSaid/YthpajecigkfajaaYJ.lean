/-
  Walks: Check, Over and Spans of package node.
-/
import Derived.Test.YthpajecigkfajaaY3
import Derived.Laws.Bits64
namespace Go.Proofs.Ythpajecigkfajaa
open Go.RowKit Go.Sort
set_option linter.unusedVariables false

theorem owns_baseG {w : World} {B C size m : Nat} {T : TypeId} {v : Value} {xs : List Value} (hBC : C ≤ B) (h : w.ownsRow B T size v m xs) : w.ownsRow C T size v m xs := by
  refine ⟨h.1, ?_⟩
  rcases h.2 with h | ⟨g, cp, cur, h2, h3, h4⟩
  · exact .inl h
  · exact .inr ⟨g, cp, cur, h2, Nat.le_trans hBC h3, h4⟩
/-- One step of the check; the check of a list. -/
def mixK (h : Nat) (c : UInt8) : Nat := ((h ^^^ c.toNat) * 1099511628211) % 18446744073709551616
def checkN (l : Bs) : Nat := l.foldl mixK 14695981039346656037
theorem mixK_lt (h : Nat) (c : UInt8) : mixK h c < 18446744073709551616 := by unfold mixK; omega
theorem checkN_snoc (l : Bs) (c : UInt8) : checkN (l ++ [c]) = mixK (checkN l) c := by unfold checkN; rw [List.foldl_append, List.foldl_cons, List.foldl_nil]
def limK (h : Nat) : Prop := h < 18446744073709551616
theorem mulW (x : Nat) : (((x : Nat) : Int) * 1099511628211) % 18446744073709551616 = ((x * 1099511628211 % 18446744073709551616 : Nat) : Int) := by
  rw [Int.natCast_emod, Int.natCast_mul]
  rfl
theorem mixW (h : Nat) (c : UInt8) (hh : limK h) : IntKind.u64.wrap (bits .xor .u64 (h : Int) ((c.toNat : Nat) : Int) * 1099511628211) = ((mixK h c : Nat) : Int) := by
  have hc : c.toNat < 18446744073709551616 := Nat.lt_of_lt_of_le c.toNat_lt (by simp)
  have hh2 : h < 18446744073709551616 := hh
  rw [bits_xor_u64_nat h c.toNat hh2 hc, IntKind.wrap_u64]
  exact mulW _
theorem convW (c : UInt8) : IntKind.u64.wrap ((c.toNat : Nat) : Int) = ((c.toNat : Nat) : Int) := by
  have hc : c.toNat < 256 := c.toNat_lt
  rw [IntKind.wrap_u64]; omega
theorem at_byte {w : World} {v : Value} {l : Bs} (h : IsBytes w v l) (i : Nat) (hi : i < l.length) : ∃ b off cap, v = .slice (some ⟨b, off, none⟩) l.length cap ∧ b < w.heap.size ∧ (l.length : Int) ≤ 9223372036854775807 ∧
    w.cell? ⟨b, off + i, none⟩ = some (.int .u8 (l[i].toNat)) := by
  obtain ⟨a, cap, rfl, h1, h2, h3⟩ := h
  obtain ⟨b, off, rfl, h4, h5⟩ := h3 (by rintro rfl; simp at hi)
  unfold maxLen at h2
  exact ⟨b, off, cap, rfl, h4, by omega, h5 i hi⟩

end Go.Proofs.Ythpajecigkfajaa
