/-
  Walks: the reader of nodes: parts, numbers, texts. Walks: the reader of nodes: pairs, bounds, messages.
-/
import Derived.Test.YthpajecigkfajaaY4
import Derived.Test.YthpajecigkfajaaYJ
namespace Go.Proofs.Ythpajecigkfajaa
open Go.RowKit Go.Sort
set_option linter.unusedVariables false

/-- Nothing but block b, and what is new, has changed. -/
structure But (b : Nat) (w w' : World) : Prop where
  os : w'.os = w.os
  tape : w'.tape = w.tape
  output : w'.output = w.output
  size : w.heap.size ≤ w'.heap.size
  block : ∀ k, k < w.heap.size → k ≠ b → w'.heap[k]? = w.heap[k]?
theorem But.refl (b : Nat) (w : World) : But b w w := ⟨rfl, rfl, rfl, Nat.le_refl _, fun _ _ _ => rfl⟩
theorem But.trans {b : Nat} {x y z : World} (h : But b x y) (k : But b y z) : But b x z :=
  ⟨k.os.trans h.os, k.tape.trans h.tape, k.output.trans h.output, Nat.le_trans h.size k.size, fun i hi hb => (k.block i (Nat.lt_of_lt_of_le hi h.size) hb).trans (h.block i hi hb)⟩
theorem But.setCell (b i : Nat) (v : Value) (w : World) : But b w (w.setCell ⟨b, i, none⟩ v) :=
  ⟨rfl, rfl, rfl, by simp [World.setCell], fun k _ hk => Below.heap_setCell _ _ _ _ hk⟩
theorem But.of {b : Nat} {w w' : World} (h : Below w.heap.size w w') : But b w w' := ⟨h.os, h.tape, h.output, h.size, fun k hk _ => h.block k hk⟩
theorem But.only {b : Nat} {w w' : World} (h : Only b w w') : But b w w' := ⟨h.os, h.tape, h.output, Nat.le_of_eq h.size.symm, fun k _ hk => h.block k hk⟩
theorem But.below {b B : Nat} {w w' : World} (h : But b w w') (hB : B ≤ b) (hs : b < w.heap.size) : Below B w w' :=
  ⟨h.os, h.tape, h.output, h.size, fun k hk => h.block k (by omega) (by omega)⟩
theorem But.blk {b c : Nat} {w w' : World} {T : TypeId} {cs : Array Value} (h : But b w w') (hc : Blk w c T cs) (hne : c ≠ b) : Blk w' c T cs := by
  unfold Blk; rw [h.block c hc.lt hne]; exact hc
/-- A store into a block that was not there. -/
theorem But.put {b c i : Nat} {v : Value} {x y : World} (h : But b x y) (hc : x.heap.size ≤ c) : But b x (y.setCell ⟨c, i, none⟩ v) :=
  ⟨h.os, h.tape, h.output, by have := h.size; simp only [World.setCell, Array.size_modify]; exact this, fun k hk hb => by rw [Below.heap_setCell _ _ _ _ (show k ≠ c by omega)]; exact h.block k hk hb⟩
theorem But.alloc {b : Nat} {x y : World} (h : But b x y) (o : Obj) : But b x (y.alloc o) := h.trans (But.of (below_box o))

/-- Bytes that lie below block C. -/
def InB (C : Nat) (w : World) (v : Value) (l : Bs) : Prop :=
  ∃ a cap, v = .slice a l.length cap ∧ l.length ≤ cap ∧ cap ≤ maxLen ∧ (l ≠ [] → ∃ b off, a = some ⟨b, off, none⟩ ∧ b < C ∧ b < w.heap.size ∧ ∀ i (h : i < l.length), w.cell? ⟨b, off + i, none⟩ = some (.int .u8 (l[i].toNat)))
theorem InB.is {C : Nat} {w : World} {v : Value} {l : Bs} (h : InB C w v l) : IsBytes w v l := by
  obtain ⟨a, cap, h1, h2, h3, h4⟩ := h
  exact ⟨a, cap, h1, h2, h3, fun hl => by obtain ⟨b, off, e, _, hlt, hc⟩ := h4 hl; exact ⟨b, off, e, hlt, hc⟩⟩
theorem IsBytes.inB {w : World} {v : Value} {l : Bs} (h : IsBytes w v l) {C : Nat} (hC : w.heap.size ≤ C) : InB C w v l := by
  obtain ⟨a, cap, h1, h2, h3, h4⟩ := h
  exact ⟨a, cap, h1, h2, h3, fun hl => by obtain ⟨b, off, e, hlt, hc⟩ := h4 hl; exact ⟨b, off, e, Nat.lt_of_lt_of_le hlt hC, hlt, hc⟩⟩
theorem InB.nil (C : Nat) (w : World) : InB C w (.slice none 0 0) [] := ⟨none, 0, rfl, Nat.le_refl _, by unfold maxLen; omega, fun h => absurd rfl h⟩
theorem InB.below {C : Nat} {w w' : World} {v : Value} {l : Bs} (h : InB C w v l) (hb : Below C w w') : InB C w' v l := by
  obtain ⟨a, cap, h1, h2, h3, h4⟩ := h
  refine ⟨a, cap, h1, h2, h3, fun hl => ?_⟩
  obtain ⟨b, off, e, hC, hlt, hc⟩ := h4 hl
  exact ⟨b, off, e, hC, Nat.lt_of_lt_of_le hlt hb.size, fun i hi => by rw [hb.cell (by exact hC)]; exact hc i hi⟩
theorem addr_add (b off k : Nat) : (⟨b, off, none⟩ : Addr).add k = ⟨b, off + k, none⟩ := by unfold Addr.add; split <;> simp_all
theorem InB.sliced {C : Nat} {w : World} {a : Option Addr} {n cap : Nat} {l : Bs} (h : InB C w (.slice a n cap) l) (lo hi : Nat) (h1 : lo ≤ hi) (h2 : hi ≤ l.length) :
    InB C w (sliced a lo hi cap 1) ((l.take hi).drop lo) := by
  obtain ⟨a', cap', e, hlc, hcm, hc⟩ := id h
  obtain ⟨a2, cap2, e2, k1, k2, k3⟩ := h.is.sliced lo hi h1 h2
  cases e
  refine ⟨a2, cap2, e2, k1, k2, fun hne => ?_⟩
  obtain ⟨b, off, rfl, hb, hcell⟩ := k3 hne
  obtain ⟨b0, off0, rfl, hC, -, -⟩ := hc (by rintro rfl; simp at hne)
  refine ⟨b, off, rfl, ?_, hb, hcell⟩
  have hlt : lo < hi := by
    rcases Nat.lt_or_ge lo hi with h | h
    · exact h
    · exfalso; apply hne; apply List.length_eq_zero_iff.1; rw [List.length_drop, List.length_take]; omega
  unfold Go.sliced at e2
  injection e2 with e3 e4 e5
  have hadd := addr_add b0 off0 lo
  split at e3
  · cases e3
    exact hC
  · simp [hadd] at e3
    rw [← e3.1]; exact hC

/-- A number of at most eight bytes. -/
def numW (k : Nat) (s : RS) : Int × RS := (IntKind.i64.wrap ((numF (takeP k s).1 : Nat) : Int), (takeP k s).2)
theorem wrap_step (m c : Int) : wrap64 (wrap64 m * 256 + c) = wrap64 (256 * m + c) := by unfold wrap64; omega
theorem wrap_mod (n : Int) : (wrap64 n) % 18446744073709551616 = n % 18446744073709551616 := by unfold wrap64; omega
theorem wrap_of_mod (a b : Int) (h : a % 18446744073709551616 = b % 18446744073709551616) : wrap64 a = wrap64 b := by unfold wrap64; omega
theorem toNat_ofI (n : Int) : (((BitVec.ofInt 64 n).toNat : Nat) : Int) = n % 18446744073709551616 := by
  rw [BitVec.toNat_ofInt, Int.toNat_of_nonneg (Int.emod_nonneg _ (by decide))]; rfl
theorem mul_div (x : Nat) (z : Int) (h : (x : Int) = (z * 256) % 18446744073709551616) : x = 2 ^ 8 * (x / 2 ^ 8) := by omega
theorem orW (z : Int) (c : UInt8) : bits .or .i64 (wrap64 (z * 256)) ((c.toNat : Nat) : Int) = wrap64 (z * 256 + ((c.toNat : Nat) : Int)) := by
  have hc : c.toNat < 2 ^ 8 := c.toNat_lt
  have h2 : (BitVec.ofInt 64 ((c.toNat : Nat) : Int)).toNat = c.toNat := by
    rw [BitVec.ofInt_natCast, BitVec.toNat_ofNat]; exact Nat.mod_eq_of_lt (Nat.lt_of_lt_of_le hc (by decide))
  have h3 := toNat_ofI (wrap64 (z * 256))
  rw [wrap_mod] at h3
  have hq := mul_div _ _ h3
  show IntKind.i64.wrap ((BitVec.ofInt 64 (wrap64 (z * 256)) ||| BitVec.ofInt 64 ((c.toNat : Nat) : Int)).toNat : Int) = _
  rw [BitVec.toNat_or, h2, hq, ← Nat.two_pow_add_eq_or_of_lt hc, ← hq, IntWalk.i64_left]
  apply wrap_of_mod
  rw [Int.natCast_add, h3]
  exact Int.emod_add_emod _ _ _

theorem numF_small (k : Nat) (s : RS) (hk : k ≤ 4) : numF (takeP k s).1 < 4294967296 := by
  have h := numF_lt (takeP k s).1
  have h2 := takeP_len k s
  exact Nat.lt_of_lt_of_le h (Nat.pow_le_pow_right (n := 256) (by decide) (show (takeP k s).1.length ≤ 4 by omega))
theorem numW_small (k : Nat) (s : RS) (hk : k ≤ 4) : numW k s = ((((numP k s).1 : Nat) : Int), (numP k s).2) := by
  have h := numF_small k s hk
  unfold numW numP
  simp only
  rw [IntWalk.i64_in _ (by omega)]
def prV (p : Pr) : Value := .agg #[.string (Str p.1), .string (Str p.2.1), .int .i64 p.2.2]
theorem But.drew {b : Nat} {x y : World} (h : But b x y) : But b x y.drew := h.trans (But.of (below_drewN y 1))

end Go.Proofs.Ythpajecigkfajaa
namespace Go.Proofs.Ythpajecigkfajaa
open Go.RowKit Go.Sort
set_option linter.unusedVariables false

def rgV (r : Rg) : Value := .agg #[.int .i64 r.1, .int .i64 r.2]
theorem MBlkF {w : World} {b : Nat} {T : TypeId} {cs : Array Value} (h : Blk w b T cs) :
    w.frozen? ⟨b, 0, none⟩ = false ∧ w.frozen? ⟨b, 1, none⟩ = false ∧ w.frozen? ⟨b, 2, none⟩ = false ∧ w.frozen? ⟨b, 3, none⟩ = false ∧ w.frozen? ⟨b, 4, none⟩ = false ∧ w.frozen? ⟨b, 5, none⟩ = false ∧ w.frozen? ⟨b, 6, none⟩ = false ∧ w.frozen? ⟨b, 7, none⟩ = false :=
  ⟨h.free 0, h.free 1, h.free 2, h.free 3, h.free 4, h.free 5, h.free 6, h.free 7⟩
theorem eight_ok {w : World} {b : Nat} {T : TypeId} {x0 x1 x2 x3 x4 x5 x6 x7 : Value} (h : Blk w b T #[x0, x1, x2, x3, x4, x5, x6, x7]) :
    w.cell? ⟨b, 0, none⟩ = some x0 ∧ w.cell? ⟨b, 1, none⟩ = some x1 ∧ w.cell? ⟨b, 2, none⟩ = some x2 ∧ w.cell? ⟨b, 3, none⟩ = some x3 ∧ w.cell? ⟨b, 4, none⟩ = some x4 ∧ w.cell? ⟨b, 5, none⟩ = some x5 ∧ w.cell? ⟨b, 6, none⟩ = some x6 ∧ w.cell? ⟨b, 7, none⟩ = some x7 :=
  ⟨h.c0 0 _ rfl, h.c0 1 _ rfl, h.c0 2 _ rfl, h.c0 3 _ rfl, h.c0 4 _ rfl, h.c0 5 _ rfl, h.c0 6 _ rfl, h.c0 7 _ rfl⟩
end Go.Proofs.Ythpajecigkfajaa
