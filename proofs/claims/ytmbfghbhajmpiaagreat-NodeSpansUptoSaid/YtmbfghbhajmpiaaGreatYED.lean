/-
  What the arguments of the law NodeSpans are, said of the world.
-/
import Derived.Test.YtmbfghbhajmpiaaGreatYDE
namespace Go.Proofs.YtmbfghbhajmpiaaGreat
open Go.ChangeShapes Go.WideShapes Go.ChangeAt Go.RowKit Go.Deep
open Go.ChangeMaps (open_string shut_string)
set_option linter.unusedVariables false
set_option maxRecDepth 100000
section
variable {H : Type} {enc : TypeId × Value → H} {W : World} {base : Nat} {r : Reach} {v : Value} {d : DataW H} {p : List MemPlace}
theorem open_strq (hval : Value.okWide Tryz.prog W r base 9 v) (hd : DataW.Trod enc Tryz.prog W 0 (fun _ => true) true 9 v d p) : ∃ l : Bs, v = .string (Str l) := by
  obtain ⟨s, rfl, _, _, hs⟩ := open_string Tryz.underlying9 hval hd
  exact ⟨s.toList, by rw [Lib.toList_data]; rfl⟩
theorem open_u8x2 (hval : Value.okWide Tryz.prog W r base 43 v) (hd : DataW.Trod enc Tryz.prog W 0 (fun _ => true) true 43 v d p) : ∃ x : Nat × Nat, v = .agg #[.int .u8 x.1, .int .u8 x.2] ∧ x.1 < 256 ∧ x.2 < 256 := by
  obtain ⟨cs, rfl, hsz⟩ := T4.okWide_arr Tryz.underlying43 hval
  obtain ⟨c0, c1, rfl⟩ := Joins.array2 (hsz.trans (by kernel_rfl))
  obtain ⟨fuel, hf⟩ := hd
  obtain ⟨xs, m, _, _, _, hx, hi⟩ := DataW.trod_array Tryz.underlying43 hf
  match xs, hx with
  | [y0, y1], _ =>
    have e : Tryz.prog.cellsOf 5 = 1 := T4.cellsU8
    have g0 := hi 0 (by omega)
    have g1 := hi 1 (by omega)
    rw [e] at g0 g1
    simp [Value.cells] at g0 g1
    obtain ⟨a0, rfl, h0⟩ := T4.one_u8 g0
    obtain ⟨a1, rfl, h1⟩ := T4.one_u8 g1
    exact ⟨(a0, a1), rfl, h0, h1⟩
end

end Go.Proofs.YtmbfghbhajmpiaaGreat
