/-
  What a law's arguments are, said of the world: what the frame of a law's proof hands to its walk.
-/
import Derived.Test.YticlomakmcjcfaaS1
import Derived.Test.YticlomakmcjcfaaRows
import Derived.WalkKit
import Derived.ProofKit
import Derived.OpenShut
import Derived.ShutString
import Derived.ChangeOld
import Derived.Below
import Derived.Lib.SmallJoins
namespace Go.Proofs.Yticlomakmcjcfaa
open Go.ChangeShapes Go.WideShapes Go.ChangeAt Go.RowKit
open Go.ChangeMaps (open_string shut_string)

set_option maxRecDepth 1000000
theorem ownNone : ownKnob Try.prog.godebug = none := by kernel_rfl
theorem laidOutA : laidOutB Try.prog = true := by kernel_rfl

/-- A slice of bytes. -/
def IsBytes (w : World) (v : Value) (l : Bs) : Prop :=
  ∃ a cap, v = .slice a l.length cap ∧ l.length ≤ cap ∧ cap ≤ maxLen ∧ (l ≠ [] → ∃ b off, a = some ⟨b, off, none⟩ ∧ b < w.heap.size ∧ ∀ i (h : i < l.length), w.cell? ⟨b, off + i, none⟩ = some (.int .u8 (l[i].toNat)))

theorem cell_lt {w : World} {b o : Nat} {v : Value} (h : w.cell? ⟨b, o, none⟩ = some v) : b < w.heap.size := by
  unfold World.cell? at h
  simp only at h
  cases hb : w.heap[b]? with
  | none => rw [hb] at h; cases h
  | some x => rw [Array.getElem?_eq_some_iff] at hb; exact hb.1

theorem IsBytes.below {w w' : World} {v : Value} {l : Bs} (h : IsBytes w v l) (hb : Below w.heap.size w w') : IsBytes w' v l := by
  obtain ⟨a, cap, h1, h2, h3, h4⟩ := h
  refine ⟨a, cap, h1, h2, h3, fun hl => ?_⟩
  obtain ⟨b, off, e, hlt, hc⟩ := h4 hl
  exact ⟨b, off, e, Nat.lt_of_lt_of_le hlt hb.size, fun i hi => by rw [hb.cell (by exact hlt)]; exact hc i hi⟩

/-- A text. -/
def IsStr (_w : World) (v : Value) (l : Bs) : Prop := v = .string (Str l) ∧ l.length ≤ maxLen
/-- A byte. -/
def IsU8 (_w : World) (v : Value) (n : Nat) : Prop := v = .int .u8 n ∧ n < 256

/-- Three slices of bytes. -/
def IsArr3 (w : World) (v : Value) (x : (Value × Bs) × (Value × Bs) × (Value × Bs)) : Prop :=
  v = .agg #[x.1.1, x.2.1.1, x.2.2.1] ∧ IsBytes w x.1.1 x.1.2 ∧ IsBytes w x.2.1.1 x.2.1.2 ∧ IsBytes w x.2.2.1 x.2.2.2
def IsArr2 (w : World) (v : Value) (x : (Value × Bs) × (Value × Bs)) : Prop := v = .agg #[x.1.1, x.2.1] ∧ IsBytes w x.1.1 x.1.2 ∧ IsBytes w x.2.1 x.2.2
/-- A raw place. -/
structure RawD where
  v : Value
  l : Bs
  t : Nat
  n : Nat
def IsRaw (w : World) (v : Value) (x : RawD) : Prop := v = .agg #[x.v, .int .u8 x.t, .int .u16 x.n] ∧ IsBytes w x.v x.l ∧ x.t < 256 ∧ x.n < 65536
theorem IsBytes.form {w : World} {v : Value} {l : Bs} (h : IsBytes w v l) : ∃ a cap, v = .slice a l.length cap ∧ l.length ≤ cap ∧ cap ≤ maxLen := by
  obtain ⟨a, cap, h1, h2, h3, _⟩ := h; exact ⟨a, cap, h1, h2, h3⟩
theorem IsBytes.cut {w : World} {a : Option Addr} {n cap : Nat} {l : Bs} (h : IsBytes w (.slice a n cap) l) (k : Nat) (hk : k ≤ l.length) : IsBytes w (.slice a k cap) (l.take k) := by
  obtain ⟨a', cap', h1, h2, h3, h4⟩ := h
  simp only [Value.slice.injEq] at h1
  obtain ⟨rfl, rfl, rfl⟩ := h1
  have hl : (l.take k).length = k := by simp; omega
  refine ⟨a, cap, by rw [hl], by omega, h3, fun hne => ?_⟩
  obtain ⟨b, off, e, hlt, hc⟩ := h4 (fun e => hne (by rw [e]; simp))
  exact ⟨b, off, e, hlt, fun i hi => by rw [List.getElem_take]; exact hc i (by omega)⟩

section
variable {H : Type} {enc : TypeId × Value → H} {W : World} {base : Nat} {r : Reach} {v : Value} {d : DataW H} {p : List MemPlace}

theorem cells_bytes {fuel : Nat} {c : Value} {y : DataW H × List MemPlace} (hf : DataW.trod enc Try.prog W 0 (fun _ => true) true fuel 22 [c] = some y) : ∃ l, IsBytes W c l := by
  rcases open_ints Try.underlying22 Try.underlying5 (by kernel_rfl) hf with ⟨hcs, _⟩ | ⟨x, len, cap, zs, hcs, _, hl, hm, hz, _, hcell, hwz⟩
  · simp only [List.cons.injEq, and_true] at hcs
    subst hcs
    exact ⟨[], none, 0, rfl, Nat.le_refl _, by unfold maxLen; omega, fun h => absurd rfl h⟩
  · simp only [List.cons.injEq, and_true] at hcs
    subst hcs
    simp only [↓reduceIte] at hz
    refine ⟨(zs.take len).map fun n => UInt8.ofNat n.toNat, some x, cap, ?_, ?_, hm, fun hne => ?_⟩
    · simp; omega
    · simp; omega
    · have hlen : ((zs.take len).map fun n => UInt8.ofNat n.toNat).length = len := by simp; omega
      have h0 : 0 < len := by
        rcases Nat.eq_zero_or_pos len with h | h
        · subst h; exact absurd rfl hne
        · exact h
      obtain ⟨b, off, spot⟩ := x
      have hc := hcell 0 (by omega)
      have hspot : spot = none := by simpa [Addr.add] using World.cell?_spot hc
      subst hspot
      have hc0 := hc
      simp only [Addr.add, Nat.add_zero] at hc0
      refine ⟨b, off, rfl, cell_lt hc0, fun i hi => ?_⟩
      have hi' : i < len := by omega
      have hci := hcell i (by omega)
      have hadd : (⟨b, off, none⟩ : Addr).add i = ⟨b, off + i, none⟩ := by unfold Addr.add; split <;> simp_all
      rw [hadd] at hci
      have hmem : zs.getD i 0 ∈ zs := by rw [List.getD_eq_getElem?_getD, List.getElem?_eq_getElem (by omega)]; exact List.getElem_mem _
      have hw := bounds_u8 (hwz _ hmem)
      refine Eq.trans hci ?_
      simp only [List.getElem_map, List.getElem_take]
      rw [List.getD_eq_getElem?_getD, List.getElem?_eq_getElem (by omega)] at hw ⊢
      simp only [Option.getD_some] at hw ⊢
      congr 2
      rw [UInt8.toNat_ofNat']
      omega

theorem open_bytes (hval : Value.okWide Try.prog W r base 22 v) (hd : DataW.Trod enc Try.prog W 0 (fun _ => true) true 22 v d p) : ∃ l, IsBytes W v l := by
  obtain ⟨a, len, cap, rfl⟩ := okWide_slice Try.underlying22 hval
  obtain ⟨fuel, hf⟩ := hd
  exact cells_bytes (c := .slice a len cap) (by simpa [Value.cells] using hf)

theorem open_str (hval : Value.okWide Try.prog W r base 9 v) (hd : DataW.Trod enc Try.prog W 0 (fun _ => true) true 9 v d p) : ∃ l : Bs, IsStr W v l := by
  obtain ⟨s, rfl, _, _, hs⟩ := open_string Try.underlying9 hval hd
  exact ⟨s.toList, by rw [Lib.toList_data]; rfl, by rw [Lib.toList_data, ← Lib.size_eq]; exact hs⟩
theorem open_u8 (hval : Value.okWide Try.prog W r base 5 v) (hd : DataW.Trod enc Try.prog W 0 (fun _ => true) true 5 v d p) : ∃ n : Nat, IsU8 W v n := by
  obtain ⟨n, rfl, _, _, hn⟩ := open_int Try.underlying5 hval hd
  have hb := bounds_u8 hn
  exact ⟨n.toNat, by rw [Int.toNat_of_nonneg hb.1], by omega⟩

theorem okWide_arr {n : Nat} {e t : TypeId} (ht : Try.prog.underlying t = some (.array n e)) (h : Value.okWide Try.prog W r base t v) : ∃ cs, v = .agg cs ∧ cs.size = Try.prog.cellsOf t := by
  simp only [Value.okWide, ht] at h
  obtain ⟨cs, h1, h2, _⟩ := h
  exact ⟨cs, h1, h2⟩
theorem open_arr2 (hval : Value.okWide Try.prog W r base 56 v) (hd : DataW.Trod enc Try.prog W 0 (fun _ => true) true 56 v d p) : ∃ x, IsArr2 W v x := by
  obtain ⟨cs, rfl, hsz⟩ := okWide_arr Try.underlying56 hval
  obtain ⟨c0, c1, rfl⟩ := Joins.array2 (hsz.trans (by kernel_rfl))
  obtain ⟨fuel, hf⟩ := hd
  obtain ⟨xs, m, _, _, _, hx, hi⟩ := DataW.trod_array Try.underlying56 hf
  match xs, hx with
  | [y0, y1], _ =>
    have e : Try.prog.cellsOf 22 = 1 := by kernel_rfl
    have g0 := hi 0 (by omega)
    have g1 := hi 1 (by omega)
    rw [e] at g0 g1
    simp [Value.cells] at g0 g1
    obtain ⟨l0, h0⟩ := cells_bytes g0
    obtain ⟨l1, h1⟩ := cells_bytes g1
    exact ⟨((c0, l0), (c1, l1)), rfl, h0, h1⟩
theorem open_raw (hval : Value.okWide Try.prog W r base 44 v) (hd : DataW.Trod enc Try.prog W 0 (fun _ => true) true 44 v d p) : ∃ x, IsRaw W v x := by
  obtain ⟨v0, v1, v2, y0, y1, y2, n, rfl, _, _, h0, h1, h2⟩ := Joins.open_agg3 Try.underlying44 (by kernel_rfl) (by kernel_rfl) hval hd
  obtain ⟨l, hl⟩ := cells_bytes h0
  obtain ⟨a, e1, _, wa⟩ := DataW.trod_int Try.underlying5 h1
  obtain ⟨b, e2, _, wb⟩ := DataW.trod_int Try.underlying42 h2
  simp only [List.cons.injEq, and_true] at e1 e2
  subst e1 e2
  have ha := bounds_u8 wa
  have hb := bounds_u16 wb
  exact ⟨⟨v0, l, a.toNat, b.toNat⟩, by rw [Int.toNat_of_nonneg ha.1, Int.toNat_of_nonneg hb.1], hl, by show a.toNat < 256; omega, by show b.toNat < 65536; omega⟩

end
end Go.Proofs.Yticlomakmcjcfaa
