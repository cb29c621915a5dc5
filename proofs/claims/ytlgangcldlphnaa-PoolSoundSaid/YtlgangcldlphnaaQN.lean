/-
  More of what the arguments of the laws of package pool are: one row of four bytes, a byte, three bytes, an int8, lists of these.
-/
import Derived.Test.YtlgangcldlphnaaQF
namespace Go.Proofs.Ytlgangcldlphnaa
open Go.ChangeShapes Go.WideShapes Go.ChangeAt Go.RowKit Go.Deep
open Go.ChangeMaps (open_string shut_string)
set_option linter.unusedVariables false
set_option maxRecDepth 100000

/-- A list of int8. -/
def IsI8s (w : World) (v : Value) (l : List Int) : Prop := (∀ x ∈ l, -128 ≤ x ∧ x < 128) ∧ ∃ a cap, v = .slice a l.length cap ∧ l.length ≤ cap ∧ cap ≤ maxLen ∧ (l ≠ [] → ∃ b off, a = some ⟨b, off, none⟩ ∧ b < w.heap.size ∧ ∀ i (h : i < l.length), w.cell? ⟨b, off + i, none⟩ = some (.int .i8 l[i]))
section
variable {H : Type} {enc : TypeId × Value → H} {W : World} {base : Nat} {r : Reach} {v : Value} {d : DataW H} {p : List MemPlace}
theorem open_r11 (hval : Value.okWide Try.prog W r base 24 v) (hd : DataW.Trod enc Try.prog W 0 (fun _ => true) true 24 v d p) : ∃ x : R4, v = r4V x ∧ x.ok := by
  obtain ⟨cs, rfl, hsz⟩ := okWide_arr Try.underlying24 hval
  obtain ⟨c0, c1, c2, c3, rfl⟩ := Joins.array4 (hsz.trans (by kernel_rfl))
  obtain ⟨fuel, hf⟩ := hd
  obtain ⟨xs, m, _, _, _, hx, hi⟩ := DataW.trod_array Try.underlying24 hf
  match xs, hx with
  | [y0, y1, y2, y3], _ =>
    have e : Try.prog.cellsOf 5 = 1 := by kernel_rfl
    have g0 := hi 0 (by omega)
    have g1 := hi 1 (by omega)
    have g2 := hi 2 (by omega)
    have g3 := hi 3 (by omega)
    rw [e] at g0 g1 g2 g3
    simp [Value.cells] at g0 g1 g2 g3
    obtain ⟨a0, rfl, h0⟩ := one_u8 g0
    obtain ⟨a1, rfl, h1⟩ := one_u8 g1
    obtain ⟨a2, rfl, h2⟩ := one_u8 g2
    obtain ⟨a3, rfl, h3⟩ := one_u8 g3
    exact ⟨⟨a0, a1, a2, a3⟩, rfl, h0, h1, h2, h3⟩
theorem open_u8 (hval : Value.okWide Try.prog W r base 5 v) (hd : DataW.Trod enc Try.prog W 0 (fun _ => true) true 5 v d p) : ∃ n : Nat, v = .int .u8 n ∧ n < 256 := by
  obtain ⟨n, rfl, _, _, hn⟩ := open_int Try.underlying5 hval hd
  have hb := bounds_u8 hn
  exact ⟨n.toNat, by rw [Int.toNat_of_nonneg hb.1], by omega⟩
theorem open_i8 (hval : Value.okWide Try.prog W r base 25 v) (hd : DataW.Trod enc Try.prog W 0 (fun _ => true) true 25 v d p) : ∃ n : Int, v = .int .i8 n ∧ -128 ≤ n ∧ n < 128 := by
  obtain ⟨n, rfl, _, _, hn⟩ := open_int Try.underlying25 hval hd
  have hb := bounds_i8 hn
  exact ⟨n, rfl, by omega⟩
theorem open_u8x3 (hval : Value.okWide Try.prog W r base 56 v) (hd : DataW.Trod enc Try.prog W 0 (fun _ => true) true 56 v d p) : ∃ x : Nat × Nat × Nat, v = .agg #[.int .u8 x.1, .int .u8 x.2.1, .int .u8 x.2.2] ∧ x.1 < 256 ∧ x.2.1 < 256 ∧ x.2.2 < 256 := by
  obtain ⟨cs, rfl, hsz⟩ := okWide_arr Try.underlying56 hval
  obtain ⟨c0, c1, c2, rfl⟩ := Joins.array3 (hsz.trans (by kernel_rfl))
  obtain ⟨fuel, hf⟩ := hd
  obtain ⟨xs, m, _, _, _, hx, hi⟩ := DataW.trod_array Try.underlying56 hf
  match xs, hx with
  | [y0, y1, y2], _ =>
    have e : Try.prog.cellsOf 5 = 1 := by kernel_rfl
    have g0 := hi 0 (by omega)
    have g1 := hi 1 (by omega)
    have g2 := hi 2 (by omega)
    rw [e] at g0 g1 g2
    simp [Value.cells] at g0 g1 g2
    obtain ⟨a0, rfl, h0⟩ := one_u8 g0
    obtain ⟨a1, rfl, h1⟩ := one_u8 g1
    obtain ⟨a2, rfl, h2⟩ := one_u8 g2
    exact ⟨(a0, a1, a2), rfl, h0, h1, h2⟩
theorem elem_int {fuel : Nat} {cs : List Value} {y : DataW H × List MemPlace} (h : DataW.trod enc Try.prog W 0 (fun _ => true) true fuel 3 cs = some y) (hl : cs.length = 1) : ∃ x : Int, cs = encI x ∧ True := by
  match cs, hl with
  | [c], _ =>
    obtain ⟨n, e, _, _⟩ := DataW.trod_int Try.underlying3 h
    simp only [List.cons.injEq, and_true] at e
    exact ⟨n, by rw [e]; rfl, trivial⟩
theorem elem_i8 {fuel : Nat} {cs : List Value} {y : DataW H × List MemPlace} (h : DataW.trod enc Try.prog W 0 (fun _ => true) true fuel 25 cs = some y) (hl : cs.length = 1) : ∃ x : Int, cs = [Value.int .i8 x] ∧ -128 ≤ x ∧ x < 128 := by
  match cs, hl with
  | [c], _ =>
    obtain ⟨n, e, _, hn⟩ := DataW.trod_int Try.underlying25 h
    simp only [List.cons.injEq, and_true] at e
    have hb := bounds_i8 hn
    exact ⟨n, by rw [e], by omega⟩
theorem open_intsA (hval : Value.okWide Try.prog W r base 30 v) (hd : DataW.Trod enc Try.prog W 0 (fun _ => true) true 30 v d p) : ∃ l, IsInts W v l := by
  obtain ⟨a, len, cap, rfl⟩ := okWide_slice Try.underlying30 hval
  obtain ⟨fuel, hf⟩ := hd
  obtain ⟨l, -, a', cap', h1, h2, h3, h4⟩ := cells_any (c := .slice a len cap) (en := encI) (P := fun _ => True) Try.underlying30 (by kernel_rfl) (by decide : 0 < 1) (fun _ => rfl) (fun h hl => elem_int h hl) (by simpa [Value.cells] using hf)
  refine ⟨l, a', cap', h1, h2, h3, fun hne => ?_⟩
  obtain ⟨b, off, e, hlt, hc⟩ := h4 hne
  refine ⟨b, off, e, hlt, fun i hi => ?_⟩
  have := hc i hi 0 _ rfl
  simpa using this
theorem open_i8s (hval : Value.okWide Try.prog W r base 68 v) (hd : DataW.Trod enc Try.prog W 0 (fun _ => true) true 68 v d p) : ∃ l, IsI8s W v l := by
  obtain ⟨a, len, cap, rfl⟩ := okWide_slice Try.underlying68 hval
  obtain ⟨fuel, hf⟩ := hd
  obtain ⟨l, hP, a', cap', h1, h2, h3, h4⟩ := cells_any (c := .slice a len cap) (en := fun x : Int => [Value.int .i8 x]) (P := fun x => -128 ≤ x ∧ x < 128) Try.underlying68 (by kernel_rfl) (by decide : 0 < 1) (fun _ => rfl) (fun h hl => elem_i8 h hl) (by simpa [Value.cells] using hf)
  refine ⟨l, hP, a', cap', h1, h2, h3, fun hne => ?_⟩
  obtain ⟨b, off, e, hlt, hc⟩ := h4 hne
  refine ⟨b, off, e, hlt, fun i hi => ?_⟩
  have := hc i hi 0 _ rfl
  simpa using this
end

end Go.Proofs.Ytlgangcldlphnaa
