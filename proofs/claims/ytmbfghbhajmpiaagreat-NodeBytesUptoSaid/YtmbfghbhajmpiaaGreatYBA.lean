/-
  Plain facts of the check: a byte that differs gives a check that differs. The opener of two numbers of 16 bits.
-/
import Derived.Test.YtmbfghbhajmpiaaGreatYAC
import Derived.Test.YtmbfghbhajmpiaaGreatY6
namespace Go.Proofs.YtmbfghbhajmpiaaGreat
open Go.ChangeShapes Go.WideShapes Go.ChangeAt Go.RowKit Go.Deep Go.Sort
open Go.ChangeMaps (open_string shut_string)
set_option linter.unusedVariables false

def IsU16x2 (_w : World) (v : Value) (x : Nat × Nat) : Prop := v = .agg #[.int .u16 x.1, .int .u16 x.2] ∧ x.1 < 65536 ∧ x.2 < 65536
section
variable {H : Type} {enc : TypeId × Value → H} {W : World} {base : Nat} {r : Reach} {v : Value} {d : DataW H} {p : List MemPlace}
set_option maxRecDepth 100000 in
theorem cells_bytes {fuel : Nat} {c : Value} {y : DataW H × List MemPlace} (hf : DataW.trod enc Tryz.prog W 0 (fun _ => true) true fuel 23 [c] = some y) : ∃ l, IsBytes W c l := by
  rcases open_ints Tryz.underlying23 Tryz.underlying5 (by kernel_rfl) hf with ⟨hcs, _⟩ | ⟨x, len, cap, zs, hcs, _, hl, hm, hz, _, hcell, hwz⟩
  · simp only [List.cons.injEq, and_true] at hcs
    subst hcs
    exact ⟨[], none, 0, rfl, Nat.le_refl _, by unfold maxLen; omega, fun h => absurd rfl h⟩
  · simp only [List.cons.injEq, and_true] at hcs
    subst hcs
    simp only [↓reduceIte] at hz
    refine ⟨(zs.take len).map fun n => UInt8.ofNat n.toNat, some x, cap, ?_, ?_, hm, fun hne => ?_⟩
    · simp; omega
    · simp; omega
    · have hlen : ((zs.take len).map fun n => UInt8.ofNat n.toNat).length = len := by simp; omega
      have h0 : 0 < len := by
        rcases Nat.eq_zero_or_pos len with h | h
        · subst h; exact absurd rfl hne
        · exact h
      obtain ⟨b, off, spot⟩ := x
      have hc := hcell 0 (by omega)
      have hspot : spot = none := by simpa [Addr.add] using World.cell?_spot hc
      subst hspot
      have hc0 := hc
      simp only [Addr.add, Nat.add_zero] at hc0
      refine ⟨b, off, rfl, cell_lt hc0, fun i hi => ?_⟩
      have hi' : i < len := by omega
      have hci := hcell i (by omega)
      have hadd : (⟨b, off, none⟩ : Addr).add i = ⟨b, off + i, none⟩ := by unfold Addr.add; split <;> simp_all
      rw [hadd] at hci
      have hmem : zs.getD i 0 ∈ zs := by rw [List.getD_eq_getElem?_getD, List.getElem?_eq_getElem (by omega)]; exact List.getElem_mem _
      have hw := bounds_u8 (hwz _ hmem)
      refine Eq.trans hci ?_
      simp only [List.getElem_map, List.getElem_take]
      rw [List.getD_eq_getElem?_getD, List.getElem?_eq_getElem (by omega)] at hw ⊢
      simp only [Option.getD_some] at hw ⊢
      congr 2
      rw [UInt8.toNat_ofNat']
      omega
set_option maxRecDepth 100000 in
theorem open_bytes (hval : Value.okWide Tryz.prog W r base 23 v) (hd : DataW.Trod enc Tryz.prog W 0 (fun _ => true) true 23 v d p) : ∃ l, IsBytes W v l := by
  obtain ⟨a, len, cap, rfl⟩ := okWide_slice Tryz.underlying23 hval
  obtain ⟨fuel, hf⟩ := hd
  exact cells_bytes (c := .slice a len cap) (by simpa [Value.cells] using hf)
set_option maxRecDepth 100000 in
theorem open_u16x2 (hval : Value.okWide Tryz.prog W r base 57 v) (hd : DataW.Trod enc Tryz.prog W 0 (fun _ => true) true 57 v d p) : ∃ x, IsU16x2 W v x := by
  obtain ⟨cs, rfl, hsz⟩ := okWide_arr Tryz.underlying57 hval
  obtain ⟨c0, c1, rfl⟩ := Joins.array2 (hsz.trans (by kernel_rfl))
  obtain ⟨fuel, hf⟩ := hd
  obtain ⟨xs, m, _, _, _, hx, hi⟩ := DataW.trod_array Tryz.underlying57 hf
  match xs, hx with
  | [y0, y1], _ =>
    have e : Tryz.prog.cellsOf 56 = 1 := by kernel_rfl
    have g0 := hi 0 (by omega)
    have g1 := hi 1 (by omega)
    rw [e] at g0 g1
    simp [Value.cells] at g0 g1
    obtain ⟨a, e0, _, wa⟩ := DataW.trod_int Tryz.underlying56 g0
    obtain ⟨b, e1, _, wb⟩ := DataW.trod_int Tryz.underlying56 g1
    simp only [List.cons.injEq, and_true] at e0 e1
    subst e0 e1
    have ha := bounds_u16 wa
    have hb := bounds_u16 wb
    exact ⟨(a.toNat, b.toNat), by rw [Int.toNat_of_nonneg ha.1, Int.toNat_of_nonneg hb.1], by show a.toNat < _; omega, by show b.toNat < _; omega⟩
end

end Go.Proofs.YtmbfghbhajmpiaaGreat
