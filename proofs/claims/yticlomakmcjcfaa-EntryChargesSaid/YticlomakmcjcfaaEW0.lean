/-
  What callees leave that lay blocks and draw. No program but for one word of it.
-/
import Derived.Test.YticlomakmcjcfaaW5
import Derived.Sort.Grow
import Derived.Shelf.SlSortCmp.QuietGrown
namespace Go.Proofs.Yticlomakmcjcfaa
open Go.RowKit Go.Sort
set_option linter.unusedVariables false

theorem mixedA : Try.prog.follows .mixedOrders = true := by kernel_rfl
/-- Blocks behind the world: nothing below turns. -/
theorem below_grow {B : Nat} (w : World) (os : Array Obj) (hB : B ≤ w.heap.size) : Below B w (grow w os) :=
  ⟨rfl, rfl, rfl, by simp [grow], fun k hk => by simp only [grow]; rw [Array.getElem?_append_left (by omega)]⟩
theorem below_drewN {B : Nat} (w : World) (n : Nat) : Below B w (w.drewN n) := ⟨rfl, rfl, rfl, Nat.le_refl _, fun _ _ => rfl⟩
theorem below_grown {B : Nat} (w : World) (n : Nat) (os : Array Obj) (hB : B ≤ w.heap.size) : Below B w (grow (w.drewN n) os) :=
  (below_drewN w n).trans (below_grow _ _ hB)
theorem Blk.grown {w : World} {b : Nat} {T : TypeId} {cs : Array Value} (h : Blk w b T cs) (n : Nat) (os : Array Obj) : Blk (grow (w.drewN n) os) b T cs :=
  Blk.below h (below_grown w n os (Nat.le_refl _)) h.lt
theorem Blk.c {w : World} {b : Nat} {T : TypeId} {cs : Array Value} (h : Blk w b T cs) (i : Nat) (v : Value) (hv : cs[i]? = some v) : ∀ n os, (grow (w.drewN n) os).cell? ⟨b, i, none⟩ = some v :=
  fun n os => by rw [(h.grown n os).cell, hv]
theorem Blk.c0 {w : World} {b : Nat} {T : TypeId} {cs : Array Value} (h : Blk w b T cs) (i : Nat) (v : Value) (hv : cs[i]? = some v) : w.cell? ⟨b, i, none⟩ = some v := by rw [h.cell, hv]
theorem Below.next {B : Nat} {w wx w1 : World} (h : Below B w wx) (hB : B ≤ w.heap.size) (k : Below wx.heap.size wx w1) : Below B w w1 := h.trans (k.mono (Nat.le_trans hB h.size))
/-- What a callee leaves that lays blocks and draws. -/
def Grown (w w' : World) : Prop := ∃ (n : Nat) (os : Array Obj), w' = grow (w.drewN n) os
theorem Grown.below {B : Nat} {w w' : World} (h : Grown w w') (hB : B ≤ w.heap.size) : Below B w w' := by obtain ⟨n, os, rfl⟩ := h; exact below_grown w n os hB
theorem Grown.refl (w : World) : Grown w w := ⟨0, #[], by rw [grow_empty]; rfl⟩
theorem Grown.trans {x y z : World} (h : Grown x y) (k : Grown y z) : Grown x z := by
  obtain ⟨n, os, rfl⟩ := h
  obtain ⟨m, os', rfl⟩ := k
  exact ⟨n + m, os ++ os', by rw [← World.drewN_drewN, ← grow_grow]; rfl⟩
theorem Grown.alloc {x y : World} (h : Grown x y) (o : Obj) : Grown x (y.alloc o) := h.trans ⟨0, #[o], alloc_eq_grow y o⟩
theorem Grown.draw {x y : World} (h : Grown x y) : Grown x y.drew := h.trans ⟨1, #[], by rw [grow_empty]; rfl⟩
/-- A store into a block that was not there. -/
theorem Grown.setCell {x y : World} (h : Grown x y) (b i : Nat) (v : Value) (hb : x.heap.size ≤ b) : Grown x (y.setCell ⟨b, i, none⟩ v) := by
  obtain ⟨n, os, rfl⟩ := h
  exact ⟨n, _, by rw [setCell_eq, mapBlock_grow_new _ _ _ _ (by exact hb)]⟩
theorem calls_grown {P : Program} {f : FuncId} {args : Array Value} {w : World} {n : Nat} {os : Array Obj} {v : Value}
    (h : Calls P f args (grow (w.drewN n) os) fun e w' => e = .returned v ∧ Grown (grow (w.drewN n) os) w') : Calls P f args (grow (w.drewN n) os) fun e w'' => e = .returned v ∧ ∃ p : GrownBy, w'' = grow (w.drewN p.n) p.os :=
  Calls.grown_of h

theorem grown_box {w : World} (o : Obj) : Grown w (w.alloc o) := (Grown.refl w).alloc o
theorem below_box {w : World} (o : Obj) : Below w.heap.size w (w.alloc o) := (Below.refl _ _).alloc (Nat.le_refl _) _

end Go.Proofs.Yticlomakmcjcfaa
