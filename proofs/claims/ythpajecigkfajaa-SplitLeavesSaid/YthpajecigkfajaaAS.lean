/-
  The opener of three bytes.
-/
import Derived.Test.YthpajecigkfajaaGD
namespace Go.Proofs.Ythpajecigkfajaa
open Go.ChangeShapes Go.WideShapes Go.ChangeAt Go.RowKit Go.Deep
open Go.ChangeMaps (open_string shut_string)
set_option linter.unusedVariables false
set_option maxRecDepth 100000
section
variable {H : Type} {enc : TypeId × Value → H} {W : World} {base : Nat} {r : Reach} {v : Value} {d : DataW H} {p : List MemPlace}
open T4 in
theorem open_b3 (hval : Value.okWide Try.prog W r base 30 v) (hd : DataW.Trod enc Try.prog W 0 (fun _ => true) true 30 v d p) : ∃ x : Nat × Nat × Nat, v = .agg #[.int .u8 x.1, .int .u8 x.2.1, .int .u8 x.2.2] ∧ x.1 < 256 ∧ x.2.1 < 256 ∧ x.2.2 < 256 := by
  obtain ⟨cs, rfl, hsz⟩ := T4.okWide_arr Try.underlying30 hval
  obtain ⟨c0, c1, c2, rfl⟩ := Joins.array3 (hsz.trans (by kernel_rfl))
  obtain ⟨fuel, hf⟩ := hd
  obtain ⟨xs, m, _, _, _, hx, hi⟩ := DataW.trod_array Try.underlying30 hf
  match xs, hx with
  | [y0, y1, y2], _ =>
    have e : Try.prog.cellsOf 5 = 1 := by kernel_rfl
    have g0 := hi 0 (by omega)
    have g1 := hi 1 (by omega)
    have g2 := hi 2 (by omega)
    rw [e] at g0 g1 g2
    simp [Value.cells] at g0 g1 g2
    obtain ⟨a0, rfl, h0⟩ := T4.one_u8 g0
    obtain ⟨a1, rfl, h1⟩ := T4.one_u8 g1
    obtain ⟨a2, rfl, h2⟩ := T4.one_u8 g2
    exact ⟨(a0, a1, a2), rfl, h0, h1, h2⟩
end

end Go.Proofs.Ythpajecigkfajaa
