/-
  Walks: leaves of package span and of the library that it calls.
-/
import Derived.Test.YthpajecigkfajaaRows
import Derived.Test.YthpajecigkfajaaPL
import Derived.Test.YthpajecigkfajaaSh
import Derived.WalkKit
import Derived.WalkSpells
import Derived.WalkLawsBesides
import Derived.Lib.Hide
import Derived.Outline
import Derived.Deep.Light
import Derived.Deep.QuietTactic
import Derived.BigQuiet
import Derived.RegionTactic
import Derived.ChangeAlike
import Derived.Sort.Grow
import Derived.Shelf.SlSortCmp.QuietGrown
import Derived.Deep.RegionWith
import Derived.Deep.RegionHeld3
import Derived.Deep.DeepCutAuto
namespace Go.Proofs.Ythpajecigkfajaa
open Go.RowKit Go.Sort
set_option linter.unusedVariables false

theorem ret_bool {a b : Bool} (h : a = b) : Ending.returned (.bool a) = .returned (.bool b) := by rw [h]
theorem ret_int {a b : Int} (h : a = b) : Ending.returned (.int .i64 a) = .returned (.int .i64 b) := by rw [h]
theorem ret_str {a b : ByteArray} (h : a = b) : Ending.returned (.string a) = .returned (.string b) := by rw [h]

theorem size_len (s : ByteArray) : s.size = s.toList.length := by rw [Lib.toList_data, Lib.size_eq]
theorem toList_Str (l : Bs) : (Str l).toList = l := by rw [Lib.toList_data]; rfl
theorem size_Str (l : Bs) : (Str l).size = l.length := by rw [size_len, toList_Str]
theorem Str_toList (s : ByteArray) : Str s.toList = s := by rw [Lib.toList_data]; exact Lib.mk_data s
theorem extract_Str (s : ByteArray) (a b : Nat) : s.extract a b = Str ((s.toList.drop a).take (b - a)) := by rw [← Str_toList (s.extract a b), Lib.extract_toList, Lib.toList_data]
theorem extract_from (s : ByteArray) (a : Nat) : s.extract a s.size = Str (s.toList.drop a) := by
  rw [extract_Str, List.take_of_length_le (by rw [List.length_drop, size_len]; exact Nat.le_refl _)]
theorem extract_to (s : ByteArray) (b : Nat) : s.extract 0 b = Str (s.toList.take b) := by rw [extract_Str]; simp
theorem extract_Str0 (l : Bs) (b : Nat) : (Str l).extract 0 b = Str (l.take b) := by rw [extract_to, toList_Str]
theorem extract_StrN (l : Bs) (a : Nat) : (Str l).extract a l.length = Str (l.drop a) := by
  have := extract_from (Str l) a
  rwa [size_Str, toList_Str] at this
theorem get_Str (l : Bs) (k : Nat) (h : k < (Str l).size) : (Str l)[k] = l[k]'(by rwa [size_Str] at h) := rfl
theorem Str_add (a b : Bs) : Str a ++ Str b = Str (a ++ b) := by
  rw [← Str_toList (Str a ++ Str b)]
  congr 1
  rw [Lib.toList_data]
  simp [Str, ByteArray.data_append]
attribute [go_sem] size_Str toList_Str extract_Str0 extract_StrN get_Str
theorem Str_ex (s : ByteArray) : ∃ l : Bs, s = Str l := ⟨s.toList, (Str_toList s).symm⟩

@[go_sem] theorem binOp_geq (t : TypeId) (a b : ByteArray) : binOp .geq t (.string a) (.string b) = pure (.bool (!Op.bytesLess a.toList b.toList)) := by simp [binOp, Op.stringOp]
@[go_sem] theorem binOp_leq (t : TypeId) (a b : ByteArray) : binOp .leq t (.string a) (.string b) = pure (.bool (Op.bytesLess a.toList b.toList || a.toList == b.toList)) := by simp [binOp, Op.stringOp]

theorem mixedA : Try.prog.follows .mixedOrders = true := by kernel_rfl
/-- A span, an end, as cells. -/
def encS (s : Sp) : List Value := [.string (Str s.1), .string (Str s.2)]
def encE (e : Ev) : List Value := [.string (Str e.1), .bool e.2.1, .int .i64 e.2.2.1, .int .i64 e.2.2.2]

/-- Blocks behind the world: nothing below turns. -/
theorem below_grow {B : Nat} (w : World) (os : Array Obj) (hB : B ≤ w.heap.size) : Below B w (grow w os) :=
  ⟨rfl, rfl, rfl, by simp [grow], fun k hk => by simp only [grow]; rw [Array.getElem?_append_left (by omega)]⟩
theorem below_drewN {B : Nat} (w : World) (n : Nat) : Below B w (w.drewN n) := ⟨rfl, rfl, rfl, Nat.le_refl _, fun _ _ => rfl⟩
theorem below_grown {B : Nat} (w : World) (n : Nat) (os : Array Obj) (hB : B ≤ w.heap.size) : Below B w (grow (w.drewN n) os) :=
  (below_drewN w n).trans (below_grow _ _ hB)
/-- Block b holds these cells, none frozen. -/
def Blk (w : World) (b : Nat) (T : TypeId) (cs : Array Value) : Prop := w.heap[b]? = some (.cells cs T (0, 0))
theorem Blk.cell {w : World} {b : Nat} {T : TypeId} {cs : Array Value} (h : Blk w b T cs) (i : Nat) : w.cell? ⟨b, i, none⟩ = cs[i]? := by
  unfold World.cell?; rw [h]; rfl
theorem Blk.free {w : World} {b : Nat} {T : TypeId} {cs : Array Value} (h : Blk w b T cs) (i : Nat) : w.frozen? ⟨b, i, none⟩ = false := by
  unfold World.frozen?; rw [h]; simp
theorem Blk.setCell {w : World} {b : Nat} {T : TypeId} {cs : Array Value} (h : Blk w b T cs) (i : Nat) (v : Value) : Blk (w.setCell ⟨b, i, none⟩ v) b T (cs.setIfInBounds i v) := by
  unfold Blk World.setCell; simp only [Array.getElem?_modify, ↓reduceIte]; rw [h]; simp
theorem Blk.setCell_other {w : World} {b : Nat} {T : TypeId} {cs : Array Value} (h : Blk w b T cs) {c : Nat} (hc : b ≠ c) (i : Nat) (v : Value) : Blk (w.setCell ⟨c, i, none⟩ v) b T cs := by
  unfold Blk; rw [Below.heap_setCell _ _ _ _ hc]; exact h
theorem Blk.below {w w' : World} {b B : Nat} {T : TypeId} {cs : Array Value} (h : Blk w b T cs) (ho : Below B w w') (hc : b < B) : Blk w' b T cs := by
  unfold Blk; rw [ho.block b hc]; exact h
theorem Blk.drewN {w : World} {b : Nat} {T : TypeId} {cs : Array Value} (h : Blk w b T cs) (n : Nat) : Blk (w.drewN n) b T cs := h
theorem Blk.new (w : World) (T : TypeId) (cs : Array Value) : Blk (w.alloc (.cells cs T)) w.heap.size T cs := by
  unfold Blk World.alloc; simp
theorem Blk.new' {n : Nat} (w : World) (T : TypeId) (cs : Array Value) (h : n = w.heap.size) : Blk (w.alloc (.cells cs T)) n T cs := by subst h; exact Blk.new w T cs
theorem Blk.lt {w : World} {b : Nat} {T : TypeId} {cs : Array Value} (h : Blk w b T cs) : b < w.heap.size := by
  unfold Blk at h; rw [Array.getElem?_eq_some_iff] at h; exact h.1
theorem Blk.alloc {w : World} {b : Nat} {T : TypeId} {cs : Array Value} (h : Blk w b T cs) (o : Obj) : Blk (w.alloc o) b T cs := by
  unfold Blk; rw [Below.heap_alloc _ _ _ h.lt]; exact h
theorem Blk.grown {w : World} {b : Nat} {T : TypeId} {cs : Array Value} (h : Blk w b T cs) (n : Nat) (os : Array Obj) : Blk (grow (w.drewN n) os) b T cs :=
  Blk.below h (below_grown w n os (Nat.le_refl _)) h.lt
theorem Blk.c {w : World} {b : Nat} {T : TypeId} {cs : Array Value} (h : Blk w b T cs) (i : Nat) (v : Value) (hv : cs[i]? = some v) : ∀ n os, (grow (w.drewN n) os).cell? ⟨b, i, none⟩ = some v :=
  fun n os => by rw [(h.grown n os).cell, hv]
theorem Blk.c0 {w : World} {b : Nat} {T : TypeId} {cs : Array Value} (h : Blk w b T cs) (i : Nat) (v : Value) (hv : cs[i]? = some v) : w.cell? ⟨b, i, none⟩ = some v := by rw [h.cell, hv]
theorem Below.next {B : Nat} {w wx w1 : World} (h : Below B w wx) (hB : B ≤ w.heap.size) (k : Below wx.heap.size wx w1) : Below B w w1 := h.trans (k.mono (Nat.le_trans hB h.size))
/-- What a callee leaves that lays blocks and draws. -/
def Grown (w w' : World) : Prop := ∃ (n : Nat) (os : Array Obj), w' = grow (w.drewN n) os
theorem Grown.below {B : Nat} {w w' : World} (h : Grown w w') (hB : B ≤ w.heap.size) : Below B w w' := by obtain ⟨n, os, rfl⟩ := h; exact below_grown w n os hB
theorem Grown.refl (w : World) : Grown w w := ⟨0, #[], by rw [grow_empty]; rfl⟩
theorem Grown.trans {x y z : World} (h : Grown x y) (k : Grown y z) : Grown x z := by
  obtain ⟨n, os, rfl⟩ := h
  obtain ⟨m, os', rfl⟩ := k
  exact ⟨n + m, os ++ os', by rw [← World.drewN_drewN, ← grow_grow]; rfl⟩
theorem Grown.alloc {x y : World} (h : Grown x y) (o : Obj) : Grown x (y.alloc o) := h.trans ⟨0, #[o], alloc_eq_grow y o⟩
theorem Grown.draw {x y : World} (h : Grown x y) : Grown x y.drew := h.trans ⟨1, #[], by rw [grow_empty]; rfl⟩
/-- A store into a block that was not there. -/
theorem Grown.setCell {x y : World} (h : Grown x y) (b i : Nat) (v : Value) (hb : x.heap.size ≤ b) : Grown x (y.setCell ⟨b, i, none⟩ v) := by
  obtain ⟨n, os, rfl⟩ := h
  exact ⟨n, _, by rw [setCell_eq, mapBlock_grow_new _ _ _ _ (by exact hb)]⟩
theorem calls_grown {P : Program} {f : FuncId} {args : Array Value} {w : World} {n : Nat} {os : Array Obj} {v : Value}
    (h : Calls P f args (grow (w.drewN n) os) fun e w' => e = .returned v ∧ Grown (grow (w.drewN n) os) w') : Calls P f args (grow (w.drewN n) os) fun e w'' => e = .returned v ∧ ∃ p : GrownBy, w'' = grow (w.drewN p.n) p.os :=
  Calls.grown_of h

/-- The compared ends of two spans, as places. -/
theorem cmp_lowhigh (hi lo : Bs) (s i t j : Int) : cmpE (hi, hi.isEmpty, s, i) (lo, false, t, j) ≤ 0 ↔ hiP hi ≤ keyP lo := by
  have h := cmpE_pos (a := (hi, hi.isEmpty, s, i)) (b := (lo, false, t, j)) (fun h => by simpa using h) (fun h => by cases h)
  rw [ptE_hi, show ptE (lo, false, t, j) = keyP lo from rfl] at h
  constructor
  · intro h1
    rw [show decide (0 < cmpE (hi, hi.isEmpty, s, i) (lo, false, t, j)) = false from by simp; omega] at h
    exact h.symm
  · intro h1
    rw [show ltP (keyP lo) (hiP hi) = false from h1] at h
    simp at h; omega

end Go.Proofs.Ythpajecigkfajaa
