/-
  Walks: one region of a text.
-/
import Derived.Test.YtaafckefeejjpaaGreatNF
namespace Go.Proofs.YtaafckefeejjpaaGreat
open Go.RowKit Go.Sort
set_option linter.unusedVariables false
-- attribute [local go_sem ↓] Go.wp_at_zero Go.wp_at_succ

/-- One region of a text, by its number. -/
def codeReg (n : Nat) : Code → Option Code
  | .region id ops d => if id = n then some (.region id ops d) else none
  | .seq a b => match codeReg n a with
    | some c => some c
    | none => codeReg n b
  | .block _ c => codeReg n c
  | .loop c => codeReg n c
  | .scope c => codeReg n c
  | .cond _ a b => match codeReg n a with
    | some c => some c
    | none => codeReg n b
  | _ => none

end Go.Proofs.YtaafckefeejjpaaGreat
