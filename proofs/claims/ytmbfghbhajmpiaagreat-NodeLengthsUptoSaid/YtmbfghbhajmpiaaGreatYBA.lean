/-
  Plain facts of the check: a byte that differs gives a check that differs. The opener of two numbers of 16 bits.
-/
import Derived.Test.YtmbfghbhajmpiaaGreatYAC
import Derived.Test.YtmbfghbhajmpiaaGreatY6
namespace Go.Proofs.YtmbfghbhajmpiaaGreat
open Go.ChangeShapes Go.WideShapes Go.ChangeAt Go.RowKit Go.Deep Go.Sort
open Go.ChangeMaps (open_string shut_string)
set_option linter.unusedVariables false

theorem mulK_inv (x : Nat) (hx : x < 18446744073709551616) : ((x * 1099511628211) % 18446744073709551616 * 14886173955864302971) % 18446744073709551616 = x := by
  rw [Nat.mod_mul_mod, Nat.mul_assoc]
  omega
theorem mulK_inj {x y : Nat} (hx : x < 18446744073709551616) (hy : y < 18446744073709551616) (h : (x * 1099511628211) % 18446744073709551616 = (y * 1099511628211) % 18446744073709551616) : x = y := by
  have h1 := mulK_inv x hx
  have h2 := mulK_inv y hy
  rw [h] at h1
  exact h1.symm.trans h2
theorem xorL {a b c : Nat} (h : a ^^^ b = a ^^^ c) : b = c := by
  have e : a ^^^ (a ^^^ b) = a ^^^ (a ^^^ c) := by rw [h]
  rwa [← Nat.xor_assoc, ← Nat.xor_assoc, Nat.xor_self, Nat.zero_xor, Nat.zero_xor] at e
theorem mixK_injB {h : Nat} {c d : UInt8} (hh : h < 18446744073709551616) (he : mixK h c = mixK h d) : c = d := by
  unfold mixK at he
  have hc : c.toNat < 18446744073709551616 := Nat.lt_of_lt_of_le c.toNat_lt (by simp)
  have hd : d.toNat < 18446744073709551616 := Nat.lt_of_lt_of_le d.toNat_lt (by simp)
  have e := mulK_inj (x := h ^^^ c.toNat) (y := h ^^^ d.toNat) (Nat.xor_lt_two_pow (n := 64) hh hc) (Nat.xor_lt_two_pow (n := 64) hh hd) he
  exact UInt8.toNat_inj.1 (xorL e)
theorem mixK_injH {h g : Nat} {c : UInt8} (hh : h < 18446744073709551616) (hg : g < 18446744073709551616) (he : mixK h c = mixK g c) : h = g := by
  unfold mixK at he
  have hc : c.toNat < 18446744073709551616 := Nat.lt_of_lt_of_le c.toNat_lt (by simp)
  have e := mulK_inj (x := h ^^^ c.toNat) (y := g ^^^ c.toNat) (Nat.xor_lt_two_pow (n := 64) hh hc) (Nat.xor_lt_two_pow (n := 64) hg hc) he
  rw [Nat.xor_comm h, Nat.xor_comm g] at e
  exact xorL e
theorem foldK_inj (l : Bs) : ∀ {h g : Nat}, h < 18446744073709551616 → g < 18446744073709551616 → l.foldl mixK h = l.foldl mixK g → h = g := by
  induction l with
  | nil => intro h g _ _ e; exact e
  | cons c l ih =>
    intro h g hh hg e
    rw [List.foldl_cons, List.foldl_cons] at e
    exact mixK_injH hh hg (ih (mixK_lt _ _) (mixK_lt _ _) e)
theorem foldK_lt (l : Bs) : ∀ {h : Nat}, h < 18446744073709551616 → l.foldl mixK h < 18446744073709551616 := by
  induction l with
  | nil => intro h hh; exact hh
  | cons c l ih => intro h hh; rw [List.foldl_cons]; exact ih (mixK_lt _ _)
theorem checkN_lt (l : Bs) : checkN l < 18446744073709551616 := foldK_lt l (by omega)
theorem checkN_set (l : Bs) (i : Nat) (hi : i < l.length) (c : UInt8) : checkN (l.set i c) = checkN l ↔ c = l[i] := by
  have e1 : l.set i c = l.take i ++ c :: l.drop (i + 1) := List.set_eq_take_append_cons_drop ▸ by rw [if_pos hi]
  have e2 : l = l.take i ++ l[i] :: l.drop (i + 1) := by rw [List.getElem_cons_drop, List.take_append_drop]
  constructor
  · intro h
    rw [e1] at h
    conv at h => rhs; rw [e2]
    unfold checkN at h
    rw [List.foldl_append, List.foldl_append, List.foldl_cons, List.foldl_cons] at h
    exact mixK_injB (checkN_lt (l.take i)) (foldK_inj _ (mixK_lt _ _) (mixK_lt _ _) h)
  · rintro rfl
    rw [List.set_getElem_self]
theorem checkN_last (l : Bs) (hl : 0 < l.length) : checkN l = mixK (checkN (l.take (l.length - 1))) l[l.length - 1] := by
  rw [← checkN_snoc]
  congr 1
  have h := List.take_concat_get (l := l) (i := l.length - 1) (by omega)
  rw [Nat.sub_add_cancel hl, List.take_length] at h
  simpa using h.symm

def IsU16x2 (_w : World) (v : Value) (x : Nat × Nat) : Prop := v = .agg #[.int .u16 x.1, .int .u16 x.2] ∧ x.1 < 65536 ∧ x.2 < 65536
section
variable {H : Type} {enc : TypeId × Value → H} {W : World} {base : Nat} {r : Reach} {v : Value} {d : DataW H} {p : List MemPlace}
set_option maxRecDepth 100000 in
theorem cells_bytes {fuel : Nat} {c : Value} {y : DataW H × List MemPlace} (hf : DataW.trod enc Tryz.prog W 0 (fun _ => true) true fuel 23 [c] = some y) : ∃ l, IsBytes W c l := by
  rcases open_ints Tryz.underlying23 Tryz.underlying5 (by kernel_rfl) hf with ⟨hcs, _⟩ | ⟨x, len, cap, zs, hcs, _, hl, hm, hz, _, hcell, hwz⟩
  · simp only [List.cons.injEq, and_true] at hcs
    subst hcs
    exact ⟨[], none, 0, rfl, Nat.le_refl _, by unfold maxLen; omega, fun h => absurd rfl h⟩
  · simp only [List.cons.injEq, and_true] at hcs
    subst hcs
    simp only [↓reduceIte] at hz
    refine ⟨(zs.take len).map fun n => UInt8.ofNat n.toNat, some x, cap, ?_, ?_, hm, fun hne => ?_⟩
    · simp; omega
    · simp; omega
    · have hlen : ((zs.take len).map fun n => UInt8.ofNat n.toNat).length = len := by simp; omega
      have h0 : 0 < len := by
        rcases Nat.eq_zero_or_pos len with h | h
        · subst h; exact absurd rfl hne
        · exact h
      obtain ⟨b, off, spot⟩ := x
      have hc := hcell 0 (by omega)
      have hspot : spot = none := by simpa [Addr.add] using World.cell?_spot hc
      subst hspot
      have hc0 := hc
      simp only [Addr.add, Nat.add_zero] at hc0
      refine ⟨b, off, rfl, cell_lt hc0, fun i hi => ?_⟩
      have hi' : i < len := by omega
      have hci := hcell i (by omega)
      have hadd : (⟨b, off, none⟩ : Addr).add i = ⟨b, off + i, none⟩ := by unfold Addr.add; split <;> simp_all
      rw [hadd] at hci
      have hmem : zs.getD i 0 ∈ zs := by rw [List.getD_eq_getElem?_getD, List.getElem?_eq_getElem (by omega)]; exact List.getElem_mem _
      have hw := bounds_u8 (hwz _ hmem)
      refine Eq.trans hci ?_
      simp only [List.getElem_map, List.getElem_take]
      rw [List.getD_eq_getElem?_getD, List.getElem?_eq_getElem (by omega)] at hw ⊢
      simp only [Option.getD_some] at hw ⊢
      congr 2
      rw [UInt8.toNat_ofNat']
      omega
set_option maxRecDepth 100000 in
theorem open_bytes (hval : Value.okWide Tryz.prog W r base 23 v) (hd : DataW.Trod enc Tryz.prog W 0 (fun _ => true) true 23 v d p) : ∃ l, IsBytes W v l := by
  obtain ⟨a, len, cap, rfl⟩ := okWide_slice Tryz.underlying23 hval
  obtain ⟨fuel, hf⟩ := hd
  exact cells_bytes (c := .slice a len cap) (by simpa [Value.cells] using hf)
set_option maxRecDepth 100000 in
theorem open_u16x2 (hval : Value.okWide Tryz.prog W r base 57 v) (hd : DataW.Trod enc Tryz.prog W 0 (fun _ => true) true 57 v d p) : ∃ x, IsU16x2 W v x := by
  obtain ⟨cs, rfl, hsz⟩ := okWide_arr Tryz.underlying57 hval
  obtain ⟨c0, c1, rfl⟩ := Joins.array2 (hsz.trans (by kernel_rfl))
  obtain ⟨fuel, hf⟩ := hd
  obtain ⟨xs, m, _, _, _, hx, hi⟩ := DataW.trod_array Tryz.underlying57 hf
  match xs, hx with
  | [y0, y1], _ =>
    have e : Tryz.prog.cellsOf 56 = 1 := by kernel_rfl
    have g0 := hi 0 (by omega)
    have g1 := hi 1 (by omega)
    rw [e] at g0 g1
    simp [Value.cells] at g0 g1
    obtain ⟨a, e0, _, wa⟩ := DataW.trod_int Tryz.underlying56 g0
    obtain ⟨b, e1, _, wb⟩ := DataW.trod_int Tryz.underlying56 g1
    simp only [List.cons.injEq, and_true] at e0 e1
    subst e0 e1
    have ha := bounds_u16 wa
    have hb := bounds_u16 wb
    exact ⟨(a.toNat, b.toNat), by rw [Int.toNat_of_nonneg ha.1, Int.toNat_of_nonneg hb.1], by show a.toNat < _; omega, by show b.toNat < _; omega⟩
end

end Go.Proofs.YtmbfghbhajmpiaaGreat
