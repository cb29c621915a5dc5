/-
  More kinds of arguments: small arrays, places.
-/
import Derived.Test.YticlomakmcjcfaaG
namespace Go.Proofs.Yticlomakmcjcfaa
open Go.ChangeShapes Go.WideShapes Go.ChangeAt Go.RowKit
open Go.ChangeMaps (open_string shut_string)
set_option maxRecDepth 1000000

def IsU8x2 (_w : World) (v : Value) (x : Nat × Nat) : Prop := v = .agg #[.int .u8 x.1, .int .u8 x.2] ∧ x.1 < 256 ∧ x.2 < 256
/-- Three numbers of 16 bits. -/
def IsI16x3 (_w : World) (v : Value) (x : Int × Int × Int) : Prop := v = .agg #[.int .i16 x.1, .int .i16 x.2.1, .int .i16 x.2.2] ∧ (-32768 ≤ x.1 ∧ x.1 ≤ 32767) ∧ (-32768 ≤ x.2.1 ∧ x.2.1 ≤ 32767) ∧ (-32768 ≤ x.2.2 ∧ x.2.2 ≤ 32767)
/-- A place of any kind. -/
structure PlcD where
  p : Bs
  t : Int
  n : Int
  m : Bs
def IsPlc (_w : World) (v : Value) (x : PlcD) : Prop := v = .agg #[.string (Str x.p), .int .i64 x.t, .int .i64 x.n, .string (Str x.m)] ∧ x.p.length ≤ maxLen ∧ x.m.length ≤ maxLen ∧ (-9223372036854775808 ≤ x.t ∧ x.t ≤ 9223372036854775807) ∧ (-9223372036854775808 ≤ x.n ∧ x.n ≤ 9223372036854775807)

section
variable {H : Type} {enc : TypeId × Value → H} {W : World} {base : Nat} {r : Reach} {v : Value} {d : DataW H} {p : List MemPlace}
theorem one_u8 {fuel : Nat} {c : Value} {y : DataW H × List MemPlace} (hf : DataW.trod enc Try.prog W 0 (fun _ => true) true fuel 5 [c] = some y) : ∃ a : Nat, c = .int .u8 a ∧ a < 256 := by
  obtain ⟨a, e0, _, wa⟩ := DataW.trod_int Try.underlying5 hf
  simp only [List.cons.injEq, and_true] at e0
  subst e0
  have ha := bounds_u8 wa
  exact ⟨a.toNat, by rw [Int.toNat_of_nonneg ha.1], by omega⟩
theorem open_u8x2 (hval : Value.okWide Try.prog W r base 23 v) (hd : DataW.Trod enc Try.prog W 0 (fun _ => true) true 23 v d p) : ∃ x, IsU8x2 W v x := by
  obtain ⟨cs, rfl, hsz⟩ := okWide_arr Try.underlying23 hval
  obtain ⟨c0, c1, rfl⟩ := Joins.array2 (hsz.trans (by kernel_rfl))
  obtain ⟨fuel, hf⟩ := hd
  obtain ⟨xs, m, _, _, _, hx, hi⟩ := DataW.trod_array Try.underlying23 hf
  match xs, hx with
  | [y0, y1], _ =>
    have e : Try.prog.cellsOf 5 = 1 := by kernel_rfl
    have g0 := hi 0 (by omega)
    have g1 := hi 1 (by omega)
    rw [e] at g0 g1
    simp [Value.cells] at g0 g1
    obtain ⟨a0, rfl, h0⟩ := one_u8 g0
    obtain ⟨a1, rfl, h1⟩ := one_u8 g1
    exact ⟨(a0, a1), rfl, h0, h1⟩
theorem one_i16 {fuel : Nat} {c : Value} {y : DataW H × List MemPlace} (hf : DataW.trod enc Try.prog W 0 (fun _ => true) true fuel 45 [c] = some y) : ∃ a : Int, c = .int .i16 a ∧ -32768 ≤ a ∧ a ≤ 32767 := by
  obtain ⟨a, e0, _, wa⟩ := DataW.trod_int Try.underlying45 hf
  simp only [List.cons.injEq, and_true] at e0
  subst e0
  have ha := bounds_i16 wa
  exact ⟨a, rfl, ha.1, ha.2⟩
theorem open_i16x3 (hval : Value.okWide Try.prog W r base 46 v) (hd : DataW.Trod enc Try.prog W 0 (fun _ => true) true 46 v d p) : ∃ x, IsI16x3 W v x := by
  obtain ⟨cs, rfl, hsz⟩ := okWide_arr Try.underlying46 hval
  obtain ⟨c0, c1, c2, rfl⟩ := Joins.array3 (hsz.trans (by kernel_rfl))
  obtain ⟨fuel, hf⟩ := hd
  obtain ⟨xs, m, _, _, _, hx, hi⟩ := DataW.trod_array Try.underlying46 hf
  match xs, hx with
  | [y0, y1, y2], _ =>
    have e : Try.prog.cellsOf 45 = 1 := by kernel_rfl
    have g0 := hi 0 (by omega)
    have g1 := hi 1 (by omega)
    have g2 := hi 2 (by omega)
    rw [e] at g0 g1 g2
    simp [Value.cells] at g0 g1 g2
    obtain ⟨a0, rfl, h0⟩ := one_i16 g0
    obtain ⟨a1, rfl, h1⟩ := one_i16 g1
    obtain ⟨a2, rfl, h2⟩ := one_i16 g2
    exact ⟨(a0, a1, a2), rfl, h0, h1, h2⟩
theorem one_int {fuel : Nat} {c : Value} {y : DataW H × List MemPlace} (hf : DataW.trod enc Try.prog W 0 (fun _ => true) true fuel 3 [c] = some y) : ∃ a : Int, c = .int .i64 a ∧ (-9223372036854775808 ≤ a ∧ a ≤ 9223372036854775807) := by
  obtain ⟨a, e0, _, wa⟩ := DataW.trod_int Try.underlying3 hf
  simp only [List.cons.injEq, and_true] at e0
  subst e0
  exact ⟨a, rfl, bounds_i64 wa⟩
theorem one_str {fuel : Nat} {c : Value} {y : DataW H × List MemPlace} (hf : DataW.trod enc Try.prog W 0 (fun _ => true) true fuel 9 [c] = some y) : ∃ l : Bs, c = .string (Str l) ∧ l.length ≤ maxLen := by
  obtain ⟨s, e, _, hs⟩ := DataW.trod_string Try.underlying9 hf
  simp only [List.cons.injEq, and_true] at e
  subst e
  exact ⟨s.toList, by rw [Lib.toList_data]; rfl, by rw [Lib.toList_data, ← Lib.size_eq]; exact hs⟩
theorem open_place (hval : Value.okWide Try.prog W r base 32 v) (hd : DataW.Trod enc Try.prog W 0 (fun _ => true) true 32 v d p) : ∃ x, IsPlc W v x := by
  obtain ⟨v0, v1, v2, v3, y0, y1, y2, y3, n, rfl, _, _, h0, h1, h2, h3⟩ := Joins.open_agg4 Try.underlying32 (by kernel_rfl) (by kernel_rfl) hval hd
  obtain ⟨a, rfl, ha⟩ := one_str h0
  obtain ⟨b, rfl, hb⟩ := one_int h1
  obtain ⟨c, rfl, hc⟩ := one_int h2
  obtain ⟨e, rfl, he⟩ := one_str h3
  exact ⟨⟨a, b, c, e⟩, rfl, ha, he, hb, hc⟩
end
end Go.Proofs.Yticlomakmcjcfaa
