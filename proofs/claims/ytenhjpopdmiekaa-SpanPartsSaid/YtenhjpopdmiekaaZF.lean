/-
  What a law's arguments are, said of the world: what the frame of a law's proof hands to its walk (package span).
-/
import Derived.Test.YtenhjpopdmiekaaZW5
import Derived.Test.YtenhjpopdmiekaaRows
import Derived.WalkKit
import Derived.ProofKit
import Derived.OpenShut
import Derived.ShutString
import Derived.ChangeOld
import Derived.Below
import Derived.Lib.SmallJoins
namespace Go.Proofs.Ytenhjpopdmiekaa
open Go.ChangeShapes Go.WideShapes Go.ChangeAt Go.RowKit
open Go.ChangeMaps (open_string shut_string)

theorem ownNone : ownKnob Try.prog.godebug = none := by kernel_rfl
theorem laidOutA : laidOutB Try.prog = true := by kernel_rfl
/-- A text. -/
def IsStr (_w : World) (v : Value) (l : Bs) : Prop := v = .string (Str l) ∧ l.length ≤ maxLen
/-- A span. -/
def IsSpan (_w : World) (v : Value) (s : Sp) : Prop := v = .agg #[.string (Str s.1), .string (Str s.2)] ∧ s.1.length ≤ maxLen ∧ s.2.length ≤ maxLen
/-- Two texts. -/
def IsTwo (_w : World) (v : Value) (s : Bs × Bs) : Prop := v = .agg #[.string (Str s.1), .string (Str s.2)] ∧ s.1.length ≤ maxLen ∧ s.2.length ≤ maxLen

section
variable {H : Type} {enc : TypeId × Value → H} {W : World} {base : Nat} {r : Reach} {v : Value} {d : DataW H} {p : List MemPlace}

theorem open_str (hval : Value.okWide Try.prog W r base 9 v) (hd : DataW.Trod enc Try.prog W 0 (fun _ => true) true 9 v d p) : ∃ l : Bs, IsStr W v l := by
  obtain ⟨s, rfl, _, _, hs⟩ := open_string Try.underlying9 hval hd
  exact ⟨s.toList, by rw [Lib.toList_data]; rfl, by rw [Lib.toList_data, ← Lib.size_eq]; exact hs⟩

theorem one_str {fuel : Nat} {c : Value} {y : DataW H × List MemPlace} (h : DataW.trod enc Try.prog W 0 (fun _ => true) true fuel 9 [c] = some y) : ∃ l : Bs, c = .string (Str l) ∧ l.length ≤ maxLen := by
  obtain ⟨s, e, _, hs⟩ := DataW.trod_string Try.underlying9 h
  simp only [List.cons.injEq, and_true] at e
  subst e
  exact ⟨s.toList, by rw [Lib.toList_data]; rfl, by rw [Lib.toList_data, ← Lib.size_eq]; exact hs⟩

theorem open_span (hval : Value.okWide Try.prog W r base 29 v) (hd : DataW.Trod enc Try.prog W 0 (fun _ => true) true 29 v d p) : ∃ x, IsSpan W v x := by
  obtain ⟨v0, v1, y0, y1, n, rfl, _, _, h0, h1⟩ := Joins.open_agg2 Try.underlying29 (by kernel_rfl) (by kernel_rfl) hval hd
  obtain ⟨l0, rfl, b0⟩ := one_str h0
  obtain ⟨l1, rfl, b1⟩ := one_str h1
  exact ⟨(l0, l1), rfl, b0, b1⟩

theorem okWide_arr {n : Nat} {e t : TypeId} (ht : Try.prog.underlying t = some (.array n e)) (h : Value.okWide Try.prog W r base t v) : ∃ cs, v = .agg cs ∧ cs.size = Try.prog.cellsOf t := by
  simp only [Value.okWide, ht] at h
  obtain ⟨cs, h1, h2, _⟩ := h
  exact ⟨cs, h1, h2⟩

end
end Go.Proofs.Ytenhjpopdmiekaa
