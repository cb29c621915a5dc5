/-
  Walks: parts of the fixed examples.
-/
import Derived.Test.YtbbiobhffelaaaaTWG
namespace Go.Proofs.Ytbbiobhffelaaaa
open Go.RowKit Go.Sort
set_option linter.unusedVariables false

theorem SanSt.alloc {w wx : World} (h : SanSt w wx) (o : Obj) : SanSt w (wx.alloc o) := h.below (below_box _)
theorem SanSt.drew {w wx : World} (h : SanSt w wx) : SanSt w wx.drew := h.below (below_drewN wx 1)
theorem SanSt.cells {w wx : World} (h : SanSt w wx) :
    (wx.cell? ⟨w.heap.size, 0, none⟩ = some (.string ⟨#[120]⟩) ∧ wx.cell? ⟨w.heap.size, 1, none⟩ = some (.string ⟨#[49]⟩) ∧ wx.cell? ⟨w.heap.size, 2, none⟩ = some (.int .i64 0) ∧ wx.cell? ⟨w.heap.size, 3, none⟩ = some (.string ⟨#[122]⟩) ∧ wx.cell? ⟨w.heap.size, 4, none⟩ = some (.string ⟨#[51]⟩) ∧ wx.cell? ⟨w.heap.size, 5, none⟩ = some (.int .i64 0)) ∧
    (wx.cell? ⟨w.heap.size + 1, 0, none⟩ = some (.string ⟨#[121]⟩) ∧ wx.cell? ⟨w.heap.size + 1, 1, none⟩ = some (.string ⟨#[50]⟩) ∧ wx.cell? ⟨w.heap.size + 1, 2, none⟩ = some (.int .i64 0) ∧ wx.cell? ⟨w.heap.size + 1, 3, none⟩ = some (.string ⟨#[122]⟩) ∧ wx.cell? ⟨w.heap.size + 1, 4, none⟩ = some (.string ⟨#[52]⟩) ∧ wx.cell? ⟨w.heap.size + 1, 5, none⟩ = some (.int .i64 0)) :=
  ⟨⟨h.a.c0 0 _ rfl, h.a.c0 1 _ rfl, h.a.c0 2 _ rfl, h.a.c0 3 _ rfl, h.a.c0 4 _ rfl, h.a.c0 5 _ rfl⟩, ⟨h.b.c0 0 _ rfl, h.b.c0 1 _ rfl, h.b.c0 2 _ rfl, h.b.c0 3 _ rfl, h.b.c0 4 _ rfl, h.b.c0 5 _ rfl⟩⟩


/-- One region of a text, by its number. -/
def codeReg (n : Nat) : Code → Option Code
  | .region id ops d => if id = n then some (.region id ops d) else none
  | .seq a b => match codeReg n a with
    | some c => some c
    | none => codeReg n b
  | .block _ c => codeReg n c
  | .loop c => codeReg n c
  | .scope c => codeReg n c
  | .cond _ a b => match codeReg n a with
    | some c => some c
    | none => codeReg n b
  | _ => none

end Go.Proofs.Ytbbiobhffelaaaa
