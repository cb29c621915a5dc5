/-
  The walk of the law TraceSpans.
-/
import Derived.Test.YthncnijkgkeohaaGreatIJ
namespace Go.Proofs.YthncnijkgkeohaaGreat
open Go.RowKit Go.Sort
set_option linter.unusedVariables false

theorem spanS_len (a b : Nat) : (T4.spanS a b).1.length ≤ 21 ∧ (T4.spanS a b).2.length ≤ 21 := by
  have l1 := T4.keyS_len a
  have l2 := T4.keyS_len b
  have l3 := T4.prefS_len a
  unfold T4.spanS
  dsimp only
  constructor
  · split <;> omega
  · split
    · simp
    · split
      · rw [List.length_append]
        split <;> (show _ + 1 ≤ 21; omega)
      · omega
/-- The three bytes of a law, in its memory. -/
structure A3 (w : World) (a b c : Nat) (wx : World) : Prop where
  b : Blk wx w.heap.size 38 #[.int .u8 a, .int .u8 b, .int .u8 c]
  g : Below w.heap.size w wx
theorem A3.below {w wx wy : World} {a b c : Nat} (h : A3 w a b c wx) (hb : Below wx.heap.size wx wy) : A3 w a b c wy := ⟨h.b.below hb h.b.lt, h.g.trans (hb.mono h.g.size)⟩
theorem A3.drew {w wx : World} {a b c : Nat} (h : A3 w a b c wx) : A3 w a b c wx.drew := ⟨h.b, h.g.drew⟩

end Go.Proofs.YthncnijkgkeohaaGreat
