/-
  What the arguments of the laws of package trace are, said of the world.
-/
import Derived.Test.YthncnijkgkeohaaGreatGAB
import Derived.Test.YthncnijkgkeohaaGreatNQJ
import Derived.Test.YthncnijkgkeohaaGreatNDX
import Derived.Test.YthncnijkgkeohaaGreatRows
import Derived.ProofKit
import Derived.OpenShut
import Derived.ShutString
import Derived.ChangeOld
import Derived.Below
import Derived.Lib.SmallJoins
import Derived.Deep.Slices
namespace Go.Proofs.YthncnijkgkeohaaGreat
namespace T7
open Go.ChangeShapes Go.WideShapes Go.ChangeAt Go.RowKit Go.Deep
open Go.ChangeMaps (open_string shut_string)
set_option linter.unusedVariables false
set_option maxRecDepth 100000

/-- A text, a number, few bytes, two lists of raw messages, two lists of raw pairs. -/
def IsStr (_w : World) (v : Value) (l : Bs) : Prop := v = .string (Str l) ∧ l.length ≤ maxLen
def IsU32 (_w : World) (v : Value) (n : Nat) : Prop := v = .int .u32 n ∧ n < 4294967296
def IsU8x2 (_w : World) (v : Value) (x : Nat × Nat) : Prop := v = .agg #[.int .u8 x.1, .int .u8 x.2] ∧ x.1 < 256 ∧ x.2 < 256
def IsU8x3 (_w : World) (v : Value) (x : Nat × Nat × Nat) : Prop := v = .agg #[.int .u8 x.1, .int .u8 x.2.1, .int .u8 x.2.2] ∧ x.1 < 256 ∧ x.2.1 < 256 ∧ x.2.2 < 256
def IsU8x4 (_w : World) (v : Value) (x : Nat × Nat × Nat × Nat) : Prop := v = .agg #[.int .u8 x.1, .int .u8 x.2.1, .int .u8 x.2.2.1, .int .u8 x.2.2.2] ∧ x.1 < 256 ∧ x.2.1 < 256 ∧ x.2.2.1 < 256 ∧ x.2.2.2 < 256
def IsR6s2 (w : World) (v : Value) (x : (Value × List R6) × (Value × List R6)) : Prop := v = .agg #[x.1.1, x.2.1] ∧ IsR6s w x.1.1 x.1.2 ∧ IsR6s w x.2.1 x.2.2
def IsR4s2 (w : World) (v : Value) (x : (Value × List Rw) × (Value × List Rw)) : Prop := v = .agg #[x.1.1, x.2.1] ∧ T4.IsRaws w x.1.1 x.1.2 ∧ T4.IsRaws w x.2.1 x.2.2
section
variable {H : Type} {enc : TypeId × Value → H} {W : World} {base : Nat} {r : Reach} {v : Value} {d : DataW H} {p : List MemPlace}
theorem open_str (hval : Value.okWide Tryz.prog W r base 9 v) (hd : DataW.Trod enc Tryz.prog W 0 (fun _ => true) true 9 v d p) : ∃ l : Bs, IsStr W v l := by
  obtain ⟨s, rfl, _, _, hs⟩ := open_string Tryz.underlying9 hval hd
  exact ⟨s.toList, by rw [Lib.toList_data]; rfl, by rw [Lib.toList_data, ← Lib.size_eq]; exact hs⟩
theorem open_u32 (hval : Value.okWide Tryz.prog W r base 69 v) (hd : DataW.Trod enc Tryz.prog W 0 (fun _ => true) true 69 v d p) : ∃ n : Nat, IsU32 W v n := by
  obtain ⟨n, rfl, _, _, hn⟩ := open_int Tryz.underlying69 hval hd
  have hb := bounds_u32 hn
  exact ⟨n.toNat, by rw [Int.toNat_of_nonneg hb.1], by omega⟩
theorem open_u8x2 (hval : Value.okWide Tryz.prog W r base 31 v) (hd : DataW.Trod enc Tryz.prog W 0 (fun _ => true) true 31 v d p) : ∃ x, IsU8x2 W v x := by
  obtain ⟨cs, rfl, hsz⟩ := okWide_arr Tryz.underlying31 hval
  obtain ⟨c0, c1, rfl⟩ := Joins.array2 (hsz.trans (by kernel_rfl))
  obtain ⟨fuel, hf⟩ := hd
  obtain ⟨xs, m, _, _, _, hx, hi⟩ := DataW.trod_array Tryz.underlying31 hf
  match xs, hx with
  | [y0, y1], _ =>
    have e : Tryz.prog.cellsOf 5 = 1 := cellsU8
    have g0 := hi 0 (by omega)
    have g1 := hi 1 (by omega)
    rw [e] at g0 g1
    simp [Value.cells] at g0 g1
    obtain ⟨a0, rfl, h0⟩ := one_u8 g0
    obtain ⟨a1, rfl, h1⟩ := one_u8 g1
    exact ⟨(a0, a1), rfl, h0, h1⟩
theorem open_u8x3 (hval : Value.okWide Tryz.prog W r base 38 v) (hd : DataW.Trod enc Tryz.prog W 0 (fun _ => true) true 38 v d p) : ∃ x, IsU8x3 W v x := by
  obtain ⟨cs, rfl, hsz⟩ := okWide_arr Tryz.underlying38 hval
  obtain ⟨c0, c1, c2, rfl⟩ := Joins.array3 (hsz.trans (by kernel_rfl))
  obtain ⟨fuel, hf⟩ := hd
  obtain ⟨xs, m, _, _, _, hx, hi⟩ := DataW.trod_array Tryz.underlying38 hf
  match xs, hx with
  | [y0, y1, y2], _ =>
    have e : Tryz.prog.cellsOf 5 = 1 := cellsU8
    have g0 := hi 0 (by omega)
    have g1 := hi 1 (by omega)
    have g2 := hi 2 (by omega)
    rw [e] at g0 g1 g2
    simp [Value.cells] at g0 g1 g2
    obtain ⟨a0, rfl, h0⟩ := one_u8 g0
    obtain ⟨a1, rfl, h1⟩ := one_u8 g1
    obtain ⟨a2, rfl, h2⟩ := one_u8 g2
    exact ⟨(a0, a1, a2), rfl, h0, h1, h2⟩
theorem open_u8x4 (hval : Value.okWide Tryz.prog W r base 23 v) (hd : DataW.Trod enc Tryz.prog W 0 (fun _ => true) true 23 v d p) : ∃ x, IsU8x4 W v x := by
  obtain ⟨cs, rfl, hsz⟩ := okWide_arr Tryz.underlying23 hval
  obtain ⟨c0, c1, c2, c3, rfl⟩ := Joins.array4 (hsz.trans (by kernel_rfl))
  obtain ⟨fuel, hf⟩ := hd
  obtain ⟨xs, m, _, _, _, hx, hi⟩ := DataW.trod_array Tryz.underlying23 hf
  match xs, hx with
  | [y0, y1, y2, y3], _ =>
    have e : Tryz.prog.cellsOf 5 = 1 := cellsU8
    have g0 := hi 0 (by omega)
    have g1 := hi 1 (by omega)
    have g2 := hi 2 (by omega)
    have g3 := hi 3 (by omega)
    rw [e] at g0 g1 g2 g3
    simp [Value.cells] at g0 g1 g2 g3
    obtain ⟨a0, rfl, h0⟩ := one_u8 g0
    obtain ⟨a1, rfl, h1⟩ := one_u8 g1
    obtain ⟨a2, rfl, h2⟩ := one_u8 g2
    obtain ⟨a3, rfl, h3⟩ := one_u8 g3
    exact ⟨(a0, a1, a2, a3), rfl, h0, h1, h2, h3⟩
theorem open_r4s2 (hval : Value.okWide Tryz.prog W r base 53 v) (hd : DataW.Trod enc Tryz.prog W 0 (fun _ => true) true 53 v d p) : ∃ x, IsR4s2 W v x := by
  obtain ⟨cs, rfl, hsz⟩ := okWide_arr Tryz.underlying53 hval
  obtain ⟨c0, c1, rfl⟩ := Joins.array2 (hsz.trans (by kernel_rfl))
  obtain ⟨fuel, hf⟩ := hd
  obtain ⟨xs, m, _, _, _, hx, hi⟩ := DataW.trod_array Tryz.underlying53 hf
  match xs, hx with
  | [y0, y1], _ =>
    have e : Tryz.prog.cellsOf 46 = 1 := by kernel_rfl
    have g0 := hi 0 (by omega)
    have g1 := hi 1 (by omega)
    rw [e] at g0 g1
    simp [Value.cells] at g0 g1
    obtain ⟨l0, h0⟩ := T4.cells_r4s g0
    obtain ⟨l1, h1⟩ := T4.cells_r4s g1
    exact ⟨((c0, l0), (c1, l1)), rfl, h0, h1⟩
end
end T7

end Go.Proofs.YthncnijkgkeohaaGreat
