/-
  More kinds of arguments.
-/
import Derived.Test.YticlomakmcjcfaaF
namespace Go.Proofs.Yticlomakmcjcfaa
open Go.ChangeShapes Go.WideShapes Go.ChangeAt Go.RowKit
open Go.ChangeMaps (open_string shut_string)

def IsI32x2 (_w : World) (v : Value) (x : Int × Int) : Prop := v = .agg #[.int .i32 x.1, .int .i32 x.2] ∧ (-2147483648 ≤ x.1 ∧ x.1 ≤ 2147483647) ∧ (-2147483648 ≤ x.2 ∧ x.2 ≤ 2147483647)
def IsU16x4 (_w : World) (v : Value) (x : Nat × Nat × Nat × Nat) : Prop := v = .agg #[.int .u16 x.1, .int .u16 x.2.1, .int .u16 x.2.2.1, .int .u16 x.2.2.2] ∧ x.1 < 65536 ∧ x.2.1 < 65536 ∧ x.2.2.1 < 65536 ∧ x.2.2.2 < 65536

section
variable {H : Type} {enc : TypeId × Value → H} {W : World} {base : Nat} {r : Reach} {v : Value} {d : DataW H} {p : List MemPlace}
set_option maxRecDepth 1000000
theorem open_u16x4 (hval : Value.okWide Try.prog W r base 53 v) (hd : DataW.Trod enc Try.prog W 0 (fun _ => true) true 53 v d p) : ∃ x, IsU16x4 W v x := by
  obtain ⟨cs, rfl, hsz⟩ := okWide_arr Try.underlying53 hval
  obtain ⟨c0, c1, c2, c3, rfl⟩ := Joins.array4 (hsz.trans (by kernel_rfl))
  obtain ⟨fuel, hf⟩ := hd
  obtain ⟨xs, m, _, _, _, hx, hi⟩ := DataW.trod_array Try.underlying53 hf
  match xs, hx with
  | [y0, y1, y2, y3], _ =>
    have e : Try.prog.cellsOf 42 = 1 := by kernel_rfl
    have g0 := hi 0 (by omega)
    have g1 := hi 1 (by omega)
    have g2 := hi 2 (by omega)
    have g3 := hi 3 (by omega)
    rw [e] at g0 g1 g2 g3
    simp [Value.cells] at g0 g1 g2 g3
    obtain ⟨a, e0, _, wa⟩ := DataW.trod_int Try.underlying42 g0
    obtain ⟨b, e1, _, wb⟩ := DataW.trod_int Try.underlying42 g1
    obtain ⟨c, e2, _, wc⟩ := DataW.trod_int Try.underlying42 g2
    obtain ⟨d, e3, _, wd⟩ := DataW.trod_int Try.underlying42 g3
    simp only [List.cons.injEq, and_true] at e0 e1 e2 e3
    subst e0 e1 e2 e3
    have ha := bounds_u16 wa
    have hb := bounds_u16 wb
    have hc := bounds_u16 wc
    have hd := bounds_u16 wd
    exact ⟨(a.toNat, b.toNat, c.toNat, d.toNat), by simp only; rw [Int.toNat_of_nonneg ha.1, Int.toNat_of_nonneg hb.1, Int.toNat_of_nonneg hc.1, Int.toNat_of_nonneg hd.1],
      by show a.toNat < 65536; omega, by show b.toNat < 65536; omega, by show c.toNat < 65536; omega, by show d.toNat < 65536; omega⟩
end
end Go.Proofs.Yticlomakmcjcfaa
