/-
  Base of the texts of package pool: blocks, lists in memory, nodes (taken out of ZS, ZW1, TW0, MS, MH, YA, YFG).
-/
import Derived.Test.YtlgangcldlphnaaRows
import Derived.WalkKit
import Derived.Lib.Strings
import Derived.Lib.Bytealg
import Derived.IntWalk
import Derived.Shelf.SlSortCmp.QuietGrown
import Derived.WalkSpells
import Derived.WalkLawsBesides
import Derived.Lib.Hide
import Derived.Outline
import Derived.Deep.Light
import Derived.Deep.QuietTactic
import Derived.BigQuiet
import Derived.RegionTactic
import Derived.ChangeAlike
import Derived.Sort.Grow
import Derived.Deep.RegionWith
import Derived.Deep.RegionHeld3
import Derived.Deep.DeepCutAuto
import Derived.OwnWalk
import Derived.Laws.AppendOwnNone
import Derived.Laws.OwnMore
import Derived.Laws.EntriesVeiled
namespace Go.Proofs.Ytlgangcldlphnaa
abbrev Bs := List UInt8
/-- A string of a list. -/
def Str (l : Bs) : ByteArray := ⟨l.toArray⟩
/-- A span: where it begins and ends. -/
abbrev Sp := Bs × Bs
open Go.RowKit Go.Sort
set_option linter.unusedVariables false
theorem ret_bool {a b : Bool} (h : a = b) : Ending.returned (.bool a) = .returned (.bool b) := by rw [h]
theorem ret_int {a b : Int} (h : a = b) : Ending.returned (.int .i64 a) = .returned (.int .i64 b) := by rw [h]
theorem ret_str {a b : ByteArray} (h : a = b) : Ending.returned (.string a) = .returned (.string b) := by rw [h]
theorem size_len (s : ByteArray) : s.size = s.toList.length := by rw [Lib.toList_data, Lib.size_eq]
theorem toList_Str (l : Bs) : (Str l).toList = l := by rw [Lib.toList_data]; rfl
theorem size_Str (l : Bs) : (Str l).size = l.length := by rw [size_len, toList_Str]
theorem Str_toList (s : ByteArray) : Str s.toList = s := by rw [Lib.toList_data]; exact Lib.mk_data s
theorem extract_Str (s : ByteArray) (a b : Nat) : s.extract a b = Str ((s.toList.drop a).take (b - a)) := by rw [← Str_toList (s.extract a b), Lib.extract_toList, Lib.toList_data]
theorem extract_from (s : ByteArray) (a : Nat) : s.extract a s.size = Str (s.toList.drop a) := by
  rw [extract_Str, List.take_of_length_le (by rw [List.length_drop, size_len]; exact Nat.le_refl _)]
theorem extract_to (s : ByteArray) (b : Nat) : s.extract 0 b = Str (s.toList.take b) := by rw [extract_Str]; simp
theorem extract_Str0 (l : Bs) (b : Nat) : (Str l).extract 0 b = Str (l.take b) := by rw [extract_to, toList_Str]
theorem extract_StrN (l : Bs) (a : Nat) : (Str l).extract a l.length = Str (l.drop a) := by
  have := extract_from (Str l) a
  rwa [size_Str, toList_Str] at this
theorem get_Str (l : Bs) (k : Nat) (h : k < (Str l).size) : (Str l)[k] = l[k]'(by rwa [size_Str] at h) := rfl
theorem Str_add (a b : Bs) : Str a ++ Str b = Str (a ++ b) := by
  rw [← Str_toList (Str a ++ Str b)]
  congr 1
  rw [Lib.toList_data]
  simp [Str, ByteArray.data_append]
attribute [go_sem] size_Str toList_Str extract_Str0 extract_StrN get_Str
theorem Str_ex (s : ByteArray) : ∃ l : Bs, s = Str l := ⟨s.toList, (Str_toList s).symm⟩
theorem mixedA : Try.prog.follows .mixedOrders = true := by kernel_rfl
/-- Blocks behind the world: nothing below turns. -/
theorem below_grow {B : Nat} (w : World) (os : Array Obj) (hB : B ≤ w.heap.size) : Below B w (grow w os) :=
  ⟨rfl, rfl, rfl, by simp [grow], fun k hk => by simp only [grow]; rw [Array.getElem?_append_left (by omega)]⟩
theorem below_drewN {B : Nat} (w : World) (n : Nat) : Below B w (w.drewN n) := ⟨rfl, rfl, rfl, Nat.le_refl _, fun _ _ => rfl⟩
theorem below_grown {B : Nat} (w : World) (n : Nat) (os : Array Obj) (hB : B ≤ w.heap.size) : Below B w (grow (w.drewN n) os) :=
  (below_drewN w n).trans (below_grow _ _ hB)
/-- Block b holds these cells, none frozen. -/
def Blk (w : World) (b : Nat) (T : TypeId) (cs : Array Value) : Prop := w.heap[b]? = some (.cells cs T (0, 0))
theorem Blk.cell {w : World} {b : Nat} {T : TypeId} {cs : Array Value} (h : Blk w b T cs) (i : Nat) : w.cell? ⟨b, i, none⟩ = cs[i]? := by
  unfold World.cell?; rw [h]; rfl
theorem Blk.free {w : World} {b : Nat} {T : TypeId} {cs : Array Value} (h : Blk w b T cs) (i : Nat) : w.frozen? ⟨b, i, none⟩ = false := by
  unfold World.frozen?; rw [h]; simp
theorem Blk.setCell {w : World} {b : Nat} {T : TypeId} {cs : Array Value} (h : Blk w b T cs) (i : Nat) (v : Value) : Blk (w.setCell ⟨b, i, none⟩ v) b T (cs.setIfInBounds i v) := by
  unfold Blk World.setCell; simp only [Array.getElem?_modify, ↓reduceIte]; rw [h]; simp
theorem Blk.setCell_other {w : World} {b : Nat} {T : TypeId} {cs : Array Value} (h : Blk w b T cs) {c : Nat} (hc : b ≠ c) (i : Nat) (v : Value) : Blk (w.setCell ⟨c, i, none⟩ v) b T cs := by
  unfold Blk; rw [Below.heap_setCell _ _ _ _ hc]; exact h
theorem Blk.below {w w' : World} {b B : Nat} {T : TypeId} {cs : Array Value} (h : Blk w b T cs) (ho : Below B w w') (hc : b < B) : Blk w' b T cs := by
  unfold Blk; rw [ho.block b hc]; exact h
theorem Blk.drewN {w : World} {b : Nat} {T : TypeId} {cs : Array Value} (h : Blk w b T cs) (n : Nat) : Blk (w.drewN n) b T cs := h
theorem Blk.new (w : World) (T : TypeId) (cs : Array Value) : Blk (w.alloc (.cells cs T)) w.heap.size T cs := by
  unfold Blk World.alloc; simp
theorem Blk.new' {n : Nat} (w : World) (T : TypeId) (cs : Array Value) (h : n = w.heap.size) : Blk (w.alloc (.cells cs T)) n T cs := by subst h; exact Blk.new w T cs
theorem Blk.lt {w : World} {b : Nat} {T : TypeId} {cs : Array Value} (h : Blk w b T cs) : b < w.heap.size := by
  unfold Blk at h; rw [Array.getElem?_eq_some_iff] at h; exact h.1
theorem Blk.alloc {w : World} {b : Nat} {T : TypeId} {cs : Array Value} (h : Blk w b T cs) (o : Obj) : Blk (w.alloc o) b T cs := by
  unfold Blk; rw [Below.heap_alloc _ _ _ h.lt]; exact h
theorem Blk.grown {w : World} {b : Nat} {T : TypeId} {cs : Array Value} (h : Blk w b T cs) (n : Nat) (os : Array Obj) : Blk (grow (w.drewN n) os) b T cs :=
  Blk.below h (below_grown w n os (Nat.le_refl _)) h.lt
theorem Blk.c {w : World} {b : Nat} {T : TypeId} {cs : Array Value} (h : Blk w b T cs) (i : Nat) (v : Value) (hv : cs[i]? = some v) : ∀ n os, (grow (w.drewN n) os).cell? ⟨b, i, none⟩ = some v :=
  fun n os => by rw [(h.grown n os).cell, hv]
theorem Blk.c0 {w : World} {b : Nat} {T : TypeId} {cs : Array Value} (h : Blk w b T cs) (i : Nat) (v : Value) (hv : cs[i]? = some v) : w.cell? ⟨b, i, none⟩ = some v := by rw [h.cell, hv]
theorem Below.next {B : Nat} {w wx w1 : World} (h : Below B w wx) (hB : B ≤ w.heap.size) (k : Below wx.heap.size wx w1) : Below B w w1 := h.trans (k.mono (Nat.le_trans hB h.size))
/-- What a callee leaves that lays blocks and draws. -/
def Grown (w w' : World) : Prop := ∃ (n : Nat) (os : Array Obj), w' = grow (w.drewN n) os
theorem Grown.below {B : Nat} {w w' : World} (h : Grown w w') (hB : B ≤ w.heap.size) : Below B w w' := by obtain ⟨n, os, rfl⟩ := h; exact below_grown w n os hB
theorem Grown.refl (w : World) : Grown w w := ⟨0, #[], by rw [grow_empty]; rfl⟩
theorem Grown.trans {x y z : World} (h : Grown x y) (k : Grown y z) : Grown x z := by
  obtain ⟨n, os, rfl⟩ := h
  obtain ⟨m, os', rfl⟩ := k
  exact ⟨n + m, os ++ os', by rw [← World.drewN_drewN, ← grow_grow]; rfl⟩
theorem Grown.alloc {x y : World} (h : Grown x y) (o : Obj) : Grown x (y.alloc o) := h.trans ⟨0, #[o], alloc_eq_grow y o⟩
theorem Grown.draw {x y : World} (h : Grown x y) : Grown x y.drew := h.trans ⟨1, #[], by rw [grow_empty]; rfl⟩
/-- A store into a block that was not there. -/
theorem Grown.setCell {x y : World} (h : Grown x y) (b i : Nat) (v : Value) (hb : x.heap.size ≤ b) : Grown x (y.setCell ⟨b, i, none⟩ v) := by
  obtain ⟨n, os, rfl⟩ := h
  exact ⟨n, _, by rw [setCell_eq, mapBlock_grow_new _ _ _ _ (by exact hb)]⟩
/-- A pair: key, value, stamp. -/
abbrev Pr := Bs × Bs × Int
theorem cell_lt {w : World} {b o : Nat} {v : Value} (h : w.cell? ⟨b, o, none⟩ = some v) : b < w.heap.size := by
  unfold World.cell? at h
  simp only at h
  cases hb : w.heap[b]? with
  | none => rw [hb] at h; cases h
  | some x => rw [Array.getElem?_eq_some_iff] at hb; exact hb.1
theorem Grown.blk {W W' : World} {b : Nat} {T : TypeId} {cs : Array Value} (hg : Grown W W') (h : Blk W b T cs) : Blk W' b T cs := Blk.below h (hg.below (B := W.heap.size) (Nat.le_refl _)) h.lt
/-- A slice of strings. -/
def IsStrs (w : World) (v : Value) (l : List Bs) : Prop :=
  ∃ a cap, v = .slice a l.length cap ∧ l.length ≤ cap ∧ cap ≤ maxLen ∧ (l ≠ [] → ∃ b off, a = some ⟨b, off, none⟩ ∧ b < w.heap.size ∧
    ∀ i (h : i < l.length), w.cell? ⟨b, off + i, none⟩ = some (.string (Str l[i])))
theorem IsStrs.below {w w' : World} {v : Value} {l : List Bs} (h : IsStrs w v l) (hb : Below w.heap.size w w') : IsStrs w' v l := by
  obtain ⟨a, cap, h1, h2, h3, h4⟩ := h
  refine ⟨a, cap, h1, h2, h3, fun hl => ?_⟩
  obtain ⟨b, off, e, hlt, hc⟩ := h4 hl
  exact ⟨b, off, e, Nat.lt_of_lt_of_le hlt hb.size, fun i hi => by rw [hb.cell (by exact hlt)]; exact hc i hi⟩
theorem IsStrs.form {w : World} {v : Value} {l : List Bs} (h : IsStrs w v l) : ∃ b off cap a, v = .slice a l.length cap ∧ l.length ≤ cap ∧ cap ≤ maxLen ∧ (l ≠ [] → a = some ⟨b, off, none⟩ ∧ b < w.heap.size) ∧
    ∀ i (h : i < l.length), a = some ⟨b, off, none⟩ ∧ w.cell? ⟨b, off + i, none⟩ = some (.string (Str l[i])) := by
  obtain ⟨a, cap, h1, h2, h3, h4⟩ := h
  by_cases hl : l = []
  · subst hl; exact ⟨0, 0, cap, a, h1, h2, h3, fun h => absurd rfl h, fun i hi => absurd hi (by simp)⟩
  · obtain ⟨b, off, e, hlt, hc⟩ := h4 hl
    exact ⟨b, off, cap, a, h1, h2, h3, fun _ => ⟨e, hlt⟩, fun i hi => ⟨e, hc i hi⟩⟩
/-- A slice of pairs. -/
def IsPairs (w : World) (v : Value) (l : List Pr) : Prop :=
  ∃ a cap, v = .slice a l.length cap ∧ l.length ≤ cap ∧ cap ≤ maxLen ∧ (∀ x ∈ l, x.1.length ≤ maxLen ∧ x.2.1.length ≤ maxLen) ∧ (l ≠ [] → ∃ b off, a = some ⟨b, off, none⟩ ∧ b < w.heap.size ∧
    ∀ i (h : i < l.length), w.cell? ⟨b, off + i * 3, none⟩ = some (.string (Str l[i].1)) ∧ w.cell? ⟨b, off + i * 3 + 1, none⟩ = some (.string (Str l[i].2.1)) ∧ w.cell? ⟨b, off + i * 3 + 2, none⟩ = some (.int .i64 l[i].2.2))
theorem IsPairs.below {w w' : World} {v : Value} {l : List Pr} (h : IsPairs w v l) (hb : Below w.heap.size w w') : IsPairs w' v l := by
  obtain ⟨a, cap, h1, h2, h3, h5, h4⟩ := h
  refine ⟨a, cap, h1, h2, h3, h5, fun hl => ?_⟩
  obtain ⟨b, off, e, hlt, hc⟩ := h4 hl
  exact ⟨b, off, e, Nat.lt_of_lt_of_le hlt hb.size, fun i hi => ⟨by rw [hb.cell (by exact hlt)]; exact (hc i hi).1, by rw [hb.cell (by exact hlt)]; exact (hc i hi).2.1, by rw [hb.cell (by exact hlt)]; exact (hc i hi).2.2⟩⟩
theorem IsPairs.form {w : World} {v : Value} {l : List Pr} (h : IsPairs w v l) : ∃ b off cap a, v = .slice a l.length cap ∧ l.length ≤ cap ∧ cap ≤ maxLen ∧ (l ≠ [] → a = some ⟨b, off, none⟩ ∧ b < w.heap.size) ∧
    ∀ i (h : i < l.length), a = some ⟨b, off, none⟩ ∧ w.cell? ⟨b, off + i * 3, none⟩ = some (.string (Str l[i].1)) ∧ w.cell? ⟨b, off + i * 3 + 1, none⟩ = some (.string (Str l[i].2.1)) ∧ w.cell? ⟨b, off + i * 3 + 2, none⟩ = some (.int .i64 l[i].2.2) := by
  obtain ⟨a, cap, h1, h2, h3, h5, h4⟩ := h
  by_cases hl : l = []
  · subst hl; exact ⟨0, 0, cap, a, h1, h2, h3, fun h => absurd rfl h, fun i hi => absurd hi (by simp)⟩
  · obtain ⟨b, off, e, hlt, hc⟩ := h4 hl
    exact ⟨b, off, cap, a, h1, h2, h3, fun _ => ⟨e, hlt⟩, fun i hi => ⟨e, hc i hi⟩⟩
theorem IsPairs.small {w : World} {v : Value} {l : List Pr} (h : IsPairs w v l) : ∀ x ∈ l, x.1.length ≤ maxLen ∧ x.2.1.length ≤ maxLen := by
  obtain ⟨a, cap, h1, h2, h3, h5, h4⟩ := h; exact h5
/-- A pair as cells. -/
def encP (x : Pr) : List Value := [.string (Str x.1), .string (Str x.2.1), .int .i64 x.2.2]
theorem flatP_get (l : List Pr) (i : Nat) (h : i < l.length) : (l.flatMap encP)[i * 3]? = some (.string (Str l[i].1)) ∧ (l.flatMap encP)[i * 3 + 1]? = some (.string (Str l[i].2.1)) ∧ (l.flatMap encP)[i * 3 + 2]? = some (.int .i64 l[i].2.2) := by
  induction l generalizing i with
  | nil => simp at h
  | cons s l ih =>
    have e : (s :: l).flatMap encP = .string (Str s.1) :: .string (Str s.2.1) :: .int .i64 s.2.2 :: l.flatMap encP := rfl
    rw [e]
    cases i with
    | zero => exact ⟨rfl, rfl, rfl⟩
    | succ i =>
      have := ih i (by simpa using h)
      rw [show (i + 1) * 3 = i * 3 + 3 by omega]
      exact this
theorem flatP_len (l : List Pr) : (l.flatMap encP).length = l.length * 3 := by
  induction l with
  | nil => rfl
  | cons s l ih =>
    have e : (s :: l).flatMap encP = .string (Str s.1) :: .string (Str s.2.1) :: .int .i64 s.2.2 :: l.flatMap encP := rfl
    rw [e]; simp [ih]; omega
theorem flatP_one (l : List Pr) : ∀ u ∈ l.flatMap encP, u.oneCell' = true := by
  intro u hu
  obtain ⟨x, _, hx⟩ := List.mem_flatMap.1 hu
  simp [encP] at hx
  rcases hx with rfl | rfl | rfl <;> rfl
/-- What lies behind an address, cell by cell. -/
theorem flatP_of (w : World) (b off : Nat) (l : List Pr) (hc : ∀ i (h : i < l.length), w.cell? ⟨b, off + i * 3, none⟩ = some (.string (Str l[i].1)) ∧ w.cell? ⟨b, off + i * 3 + 1, none⟩ = some (.string (Str l[i].2.1)) ∧ w.cell? ⟨b, off + i * 3 + 2, none⟩ = some (.int .i64 l[i].2.2)) :
    ∀ j u, (l.flatMap encP)[j]? = some u → w.cell? ((⟨b, off, none⟩ : Addr).add j) = some u := by
  intro j u hj
  have hlt : j < l.length * 3 := by
    rw [← flatP_len]
    exact (List.getElem?_eq_some_iff.1 hj).1
  have hadd : (⟨b, off, none⟩ : Addr).add j = ⟨b, off + j, none⟩ := by unfold Addr.add; split <;> simp_all
  rw [hadd]
  have hi : j / 3 < l.length := by omega
  have g := flatP_get l (j / 3) hi
  have c := hc (j / 3) hi
  have hcase : j = j / 3 * 3 ∨ j = j / 3 * 3 + 1 ∨ j = j / 3 * 3 + 2 := by omega
  rcases hcase with h | h | h
  · rw [h] at hj ⊢
    have hd : j / 3 * 3 / 3 = j / 3 := by omega
    rw [g.1] at hj
    rw [← Option.some.inj hj]
    exact c.1
  · rw [h] at hj ⊢
    rw [g.2.1] at hj
    rw [← Option.some.inj hj]
    exact c.2.1
  · rw [h] at hj ⊢
    rw [g.2.2] at hj
    rw [← Option.some.inj hj]
    exact c.2.2
theorem IsPairs.owned {w : World} {base : Nat} {v : Value} {n : Nat} {l : List Pr} (h : w.ownsRow base 78 3 v n (l.flatMap encP)) (hs : ∀ x ∈ l, x.1.length ≤ maxLen ∧ x.2.1.length ≤ maxLen) : IsPairs w v l := by
  have hlen := h.1
  rw [flatP_len] at hlen
  obtain rfl : n = l.length := by omega
  rcases h.2 with ⟨rfl, h0⟩ | ⟨g, cap, cur, rfl, hb, hg, hn, hm, hsz, htk⟩
  · have : l = [] := List.length_eq_zero_iff.1 h0
    subst this
    exact ⟨none, 0, rfl, Nat.le_refl _, by unfold maxLen; omega, hs, fun h => absurd rfl h⟩
  · refine ⟨_, cap, rfl, hn, hm, hs, fun hne => ⟨g, 0, rfl, (Array.getElem?_eq_some_iff.1 hg).1, fun i hi => ?_⟩⟩
    have hc : ∀ j u, (l.flatMap encP)[j]? = some u → w.cell? ⟨g, 0 + j, none⟩ = some u := by
      intro j u hj
      unfold World.cell?
      rw [hg]
      show cur[0 + j]? = _
      have h1 : (cur.toList.take (l.length * 3))[j]? = some u := by rw [htk]; exact hj
      rw [List.getElem?_take] at h1
      split at h1
      · rw [Array.getElem?_toList] at h1; rw [Nat.zero_add]; exact h1
      · cases h1
    have g3 := flatP_get l i hi
    refine ⟨hc _ _ g3.1, ?_, ?_⟩
    · rw [Nat.add_assoc]; exact hc _ _ g3.2.1
    · rw [Nat.add_assoc]; exact hc _ _ g3.2.2
theorem own_empty (W : World) (B : Nat) (hB : B ≤ W.heap.size) : (W.alloc (.cells #[] 78)).ownsRow B 78 3 (.slice (some ⟨W.heap.size, 0, none⟩) 0 0) 0 (([] : List Pr).flatMap encP) :=
  ⟨rfl, .inr ⟨W.heap.size, 0, #[], rfl, hB, Blk.new _ _ _, Nat.le_refl _, by unfold maxLen; omega, rfl, rfl⟩⟩
theorem infoP : (Try.prog.info? 78).map (fun i => (i.zero, i.size, i.bytes)) = some (some (.agg #[.string ⟨#[]⟩, .string ⟨#[]⟩, .int .i64 0]), 3, 40) := by kernel_rfl
theorem append_gen {w : World} {ops : Array Oper} {rest : List Oper} {o : Oper} {a : Act} {Q : Exit → Act → World → Prop} (hgd : o.guard = none) (s x : Operand) (t e : TypeId) (i0 : TypeInfo) (z : Value) (size bytes : Nat)
    (ht : Try.prog.underlying t = some (.slice e)) (hi : Try.prog.info? e = some i0) (hz0 : i0.zero = some z) (hz1 : i0.size = size) (hz2 : i0.bytes = bytes) (hzs : z.cells.size = size) (hsz : 0 < size) (hby : bytes ≤ 1000)
    (ho : o.op = .call { callee := .builtin .append, args := #[s, x], argTypes := #[t, t] }) (base : Nat) (v : Value) (n : Nat) (xs : List Value) (hs : a.eval s = v) (hown : w.ownsRow base e size v n xs)
    (p : Option Addr) (m cap : Nat) (news : List Value) (hx : a.eval x = .slice p m cap) (hnl : news.length = m * size) (hp : m ≠ 0 → ∃ ad, p = some ad ∧ ∀ j u, news[j]? = some u → w.cell? (ad.add j) = some u) (h1 : ∀ u ∈ news, u.oneCell' = true)
    (hl : n + m ≤ 1000000000) (hbase : base ≤ w.heap.size)
    (h : ∀ v' w', w'.ownsRow base e size v' (n + m) (xs ++ news) → Below base w w' → wpList Try.prog ops Q rest (a.put o.dst v') w') : wpList Try.prog ops Q (o :: rest) a w := by
  have hbytes : (n + m) * bytes ≤ 140737488355328 := Nat.le_trans (Nat.mul_le_mul hl hby) (by decide)
  cases p with
  | none =>
    have hm : m = 0 := by
      rcases Nat.eq_zero_or_pos m with h0 | h0
      · exact h0
      · obtain ⟨ad, h, _⟩ := hp (by omega)
        cases h
    subst hm
    have hn0 : news = [] := List.length_eq_zero_iff.1 (by simpa using hnl)
    subst hn0
    have hh := h v w (by simpa using hown) (Below.refl _ _)
    refine wpList_plain hgd fun K hK => ?_
    have hrun : (Builtin.append_ #[t, t] o.type #[v, .slice none 0 cap]).run Try.prog w = .ok v w := by
      rcases hown.2 with ⟨rfl, _⟩ | ⟨g, cap', cur, rfl, _, _, hnc, _⟩
      · simp [Builtin.append_, run_underlying ht, sizeOf, typeInfo, hi, Builtin.lenOf, Builtin.firstCells]
      · simp [Builtin.append_, run_underlying ht, sizeOf, typeInfo, hi, Builtin.lenOf, Builtin.firstCells, hnc, storeCells]
    unfold Oper.wp
    simp [execOp, ho, resolve, invoke, builtin, hs, hx, hrun, Result.andThen]
    exact hK _ _ hh
  | some ad =>
    have hcell : ∀ j u, news[j]? = some u → w.cell? (ad.add j) = some u := by
      by_cases hm : m = 0
      · have hn0 : news = [] := List.length_eq_zero_iff.1 (by rw [hnl, hm]; simp)
        subst hn0
        intro j u hj; simp at hj
      · obtain ⟨ad', e1, hc⟩ := hp hm
        cases e1
        exact hc
    refine wpList_append_own _ hgd s x t ho base e i0 z size bytes ht hi hz0 hz1 hz2 hzs hsz v n xs hs hown ad m cap news hx hnl hcell h1 (by unfold maxLen; omega) hbytes hbase ?_
    intro v' w' h2 h3 _
    exact h v' w' h2 (Below.grown (Below.refl _ _) h3 hbase (fun q hq => (hown.lt q hq).1))
theorem cells_at {w : World} {b off : Nat} {news : List Value} (hc : ∀ j u, news[j]? = some u → w.cell? ⟨b, off + j, none⟩ = some u) : ∀ j u, news[j]? = some u → w.cell? ((⟨b, off, none⟩ : Addr).add j) = some u := by
  intro j u hj
  have hadd : (⟨b, off, none⟩ : Addr).add j = ⟨b, off + j, none⟩ := by unfold Addr.add; split <;> simp_all
  rw [hadd]; exact hc j u hj
theorem IsPairs.nil (w : World) : IsPairs w (.slice none 0 0) [] := ⟨none, 0, rfl, Nat.le_refl _, by unfold maxLen; omega, fun x hx => by simp at hx, fun h => absurd rfl h⟩
theorem below_box {w : World} (o : Obj) : Below w.heap.size w (w.alloc o) := (Below.refl _ _).alloc (Nat.le_refl _) _
theorem owns_below {w w' : World} {base : Nat} {e : TypeId} {size : Nat} {v : Value} {n : Nat} {xs : List Value} (h : w.ownsRow base e size v n xs) (hb : Below w.heap.size w w') : w'.ownsRow base e size v n xs := by
  refine ⟨h.1, ?_⟩
  rcases h.2 with hn | ⟨g, cap, cur, rfl, hg, hgg, rest⟩
  · exact .inl hn
  · refine .inr ⟨g, cap, cur, rfl, hg, ?_, rest⟩
    rw [hb.block g (Array.getElem?_eq_some_iff.1 hgg).1]; exact hgg
theorem owns_lower {w : World} {base B : Nat} {e : TypeId} {size : Nat} {v : Value} {n : Nat} {xs : List Value} (h : w.ownsRow base e size v n xs) (hb : B ≤ base) : w.ownsRow B e size v n xs := by
  refine ⟨h.1, ?_⟩
  rcases h.2 with hn | ⟨g, cap, cur, rfl, hg, rest⟩
  · exact .inl hn
  · exact .inr ⟨g, cap, cur, rfl, by omega, rest⟩
/-- A message. -/
structure Ms where
  kind : Int
  key : Bs
  val : Bs
  lo : Bs
  hi : Bs
  src : Bs
  dst : Bs
  n : Int
def Ms.one (m : Ms) : Int × Bs × Bs × Int := (m.kind, m.key, m.val, m.n)
def Ms.two (m : Ms) : Bs × Bs × Bs × Bs := (m.lo, m.hi, m.src, m.dst)
theorem Ms.ext' {a b : Ms} (h : a.one = b.one) (k : a.two = b.two) : a = b := by
  cases a; cases b; simp [Ms.one] at h; simp [Ms.two] at k; simp [h, k]
instance : DecidableEq Ms := fun a b =>
  if h : a.one = b.one then (if k : a.two = b.two then .isTrue (Ms.ext' h k) else .isFalse fun e => k (by rw [e])) else .isFalse fun e => h (by rw [e])
/-- A slice of messages. -/
def MAt (w : World) (b o : Nat) (m : Ms) : Prop :=
  w.cell? ⟨b, o, none⟩ = some (.int .i64 m.kind) ∧ w.cell? ⟨b, o + 1, none⟩ = some (.string (Str m.key)) ∧ w.cell? ⟨b, o + 2, none⟩ = some (.string (Str m.val)) ∧ w.cell? ⟨b, o + 3, none⟩ = some (.string (Str m.lo)) ∧
  w.cell? ⟨b, o + 4, none⟩ = some (.string (Str m.hi)) ∧ w.cell? ⟨b, o + 5, none⟩ = some (.string (Str m.src)) ∧ w.cell? ⟨b, o + 6, none⟩ = some (.string (Str m.dst)) ∧ w.cell? ⟨b, o + 7, none⟩ = some (.int .i64 m.n)
theorem MAt.below {w w' : World} {b o : Nat} {m : Ms} (h : MAt w b o m) {B : Nat} (hb : Below B w w') (hl : b < B) : MAt w' b o m := by
  have e : ∀ k, w'.cell? ⟨b, k, none⟩ = w.cell? ⟨b, k, none⟩ := fun k => hb.cell (p := ⟨b, k, none⟩) hl
  unfold MAt at *
  simp only [e]; exact h
def IsMsgs (w : World) (v : Value) (l : List Ms) : Prop :=
  ∃ a cap, v = .slice a l.length cap ∧ l.length ≤ cap ∧ cap ≤ maxLen ∧ (l ≠ [] → ∃ b off, a = some ⟨b, off, none⟩ ∧ b < w.heap.size ∧ ∀ i (h : i < l.length), MAt w b (off + i * 8) l[i])
theorem IsMsgs.below {w w' : World} {v : Value} {l : List Ms} (h : IsMsgs w v l) (hb : Below w.heap.size w w') : IsMsgs w' v l := by
  obtain ⟨a, cap, h1, h2, h3, h4⟩ := h
  refine ⟨a, cap, h1, h2, h3, fun hl => ?_⟩
  obtain ⟨b, off, e, hlt, hc⟩ := h4 hl
  exact ⟨b, off, e, Nat.lt_of_lt_of_le hlt hb.size, fun i hi => (hc i hi).below hb hlt⟩
theorem IsMsgs.form {w : World} {v : Value} {l : List Ms} (h : IsMsgs w v l) : ∃ b off cap a, v = .slice a l.length cap ∧ l.length ≤ cap ∧ cap ≤ maxLen ∧ (l ≠ [] → a = some ⟨b, off, none⟩ ∧ b < w.heap.size) ∧
    ∀ i (h : i < l.length), a = some ⟨b, off, none⟩ ∧ MAt w b (off + i * 8) l[i] := by
  obtain ⟨a, cap, h1, h2, h3, h4⟩ := h
  by_cases hl : l = []
  · subst hl; exact ⟨0, 0, cap, a, h1, h2, h3, fun h => absurd rfl h, fun i hi => absurd hi (by simp)⟩
  · obtain ⟨b, off, e, hlt, hc⟩ := h4 hl
    exact ⟨b, off, cap, a, h1, h2, h3, fun _ => ⟨e, hlt⟩, fun i hi => ⟨e, hc i hi⟩⟩
/-- Bounds: of inodes, of bytes. -/
abbrev Rg := Int × Int
abbrev Sm := Rg × Rg
@[reducible] def smV (s : Sm) : Value := .agg #[.int .i64 s.1.1, .int .i64 s.1.2, .int .i64 s.2.1, .int .i64 s.2.2]
/-- A node. -/
structure Nd where
  pairs : List Pr
  pivots : List Bs
  kids : List Int
  sums : List Sm
  buf : List Ms
/-- A slice of numbers, of bounds. -/
def IsInts (w : World) (v : Value) (l : List Int) : Prop :=
  ∃ a cap, v = .slice a l.length cap ∧ l.length ≤ cap ∧ cap ≤ maxLen ∧ (l ≠ [] → ∃ b off, a = some ⟨b, off, none⟩ ∧ b < w.heap.size ∧ ∀ i (h : i < l.length), w.cell? ⟨b, off + i, none⟩ = some (.int .i64 l[i]))
def SAt (w : World) (b o : Nat) (s : Sm) : Prop :=
  w.cell? ⟨b, o, none⟩ = some (.int .i64 s.1.1) ∧ w.cell? ⟨b, o + 1, none⟩ = some (.int .i64 s.1.2) ∧ w.cell? ⟨b, o + 2, none⟩ = some (.int .i64 s.2.1) ∧ w.cell? ⟨b, o + 3, none⟩ = some (.int .i64 s.2.2)
def IsSums (w : World) (v : Value) (l : List Sm) : Prop :=
  ∃ a cap, v = .slice a l.length cap ∧ l.length ≤ cap ∧ cap ≤ maxLen ∧ (l ≠ [] → ∃ b off, a = some ⟨b, off, none⟩ ∧ b < w.heap.size ∧ ∀ i (h : i < l.length), SAt w b (off + i * 4) l[i])
theorem IsInts.below {w w' : World} {v : Value} {l : List Int} (h : IsInts w v l) (hb : Below w.heap.size w w') : IsInts w' v l := by
  obtain ⟨a, cap, h1, h2, h3, h4⟩ := h
  refine ⟨a, cap, h1, h2, h3, fun hl => ?_⟩
  obtain ⟨b, off, e, hlt, hc⟩ := h4 hl
  exact ⟨b, off, e, Nat.lt_of_lt_of_le hlt hb.size, fun i hi => by rw [hb.cell (by exact hlt)]; exact hc i hi⟩
theorem IsSums.below {w w' : World} {v : Value} {l : List Sm} (h : IsSums w v l) (hb : Below w.heap.size w w') : IsSums w' v l := by
  obtain ⟨a, cap, h1, h2, h3, h4⟩ := h
  refine ⟨a, cap, h1, h2, h3, fun hl => ?_⟩
  obtain ⟨b, off, e, hlt, hc⟩ := h4 hl
  exact ⟨b, off, e, Nat.lt_of_lt_of_le hlt hb.size, fun i hi => ⟨by rw [hb.cell (by exact hlt)]; exact (hc i hi).1, by rw [hb.cell (by exact hlt)]; exact (hc i hi).2.1, by rw [hb.cell (by exact hlt)]; exact (hc i hi).2.2.1, by rw [hb.cell (by exact hlt)]; exact (hc i hi).2.2.2⟩⟩
theorem at_str {w : World} {v : Value} {l : List Bs} (h : IsStrs w v l) (i : Nat) (hi : i < l.length) : ∃ b off cap, v = .slice (some ⟨b, off, none⟩) l.length cap ∧ b < w.heap.size ∧ (l.length : Int) ≤ 9223372036854775807 ∧
    w.cell? ⟨b, off + i, none⟩ = some (.string (Str l[i])) := by
  obtain ⟨a, cap, rfl, h1, h2, h3⟩ := h
  obtain ⟨b, off, rfl, h4, h5⟩ := h3 (by rintro rfl; simp at hi)
  unfold maxLen at h2
  exact ⟨b, off, cap, rfl, h4, by omega, h5 i hi⟩
theorem at_int {w : World} {v : Value} {l : List Int} (h : IsInts w v l) (i : Nat) (hi : i < l.length) : ∃ b off cap, v = .slice (some ⟨b, off, none⟩) l.length cap ∧ b < w.heap.size ∧ (l.length : Int) ≤ 9223372036854775807 ∧
    w.cell? ⟨b, off + i, none⟩ = some (.int .i64 l[i]) := by
  obtain ⟨a, cap, rfl, h1, h2, h3⟩ := h
  obtain ⟨b, off, rfl, h4, h5⟩ := h3 (by rintro rfl; simp at hi)
  unfold maxLen at h2
  exact ⟨b, off, cap, rfl, h4, by omega, h5 i hi⟩
theorem at_sum {w : World} {v : Value} {l : List Sm} (h : IsSums w v l) (i : Nat) (hi : i < l.length) : ∃ b off cap, v = .slice (some ⟨b, off, none⟩) l.length cap ∧ b < w.heap.size ∧ (l.length : Int) ≤ 9223372036854775807 ∧
    SAt w b (off + i * 4) l[i] := by
  obtain ⟨a, cap, rfl, h1, h2, h3⟩ := h
  obtain ⟨b, off, rfl, h4, h5⟩ := h3 (by rintro rfl; simp at hi)
  unfold maxLen at h2
  exact ⟨b, off, cap, rfl, h4, by omega, h5 i hi⟩
theorem at_msg {w : World} {v : Value} {l : List Ms} (h : IsMsgs w v l) (i : Nat) (hi : i < l.length) : ∃ b off cap, v = .slice (some ⟨b, off, none⟩) l.length cap ∧ b < w.heap.size ∧ (l.length : Int) ≤ 9223372036854775807 ∧
    MAt w b (off + i * 8) l[i] := by
  obtain ⟨a, cap, rfl, h1, h2, h3⟩ := h
  obtain ⟨b, off, rfl, h4, h5⟩ := h3 (by rintro rfl; simp at hi)
  unfold maxLen at h2
  exact ⟨b, off, cap, rfl, h4, by omega, h5 i hi⟩
/-- A node in memory. -/
def IsNode (w : World) (v : Value) (n : Nd) : Prop :=
  ∃ a b c d e, v = .agg #[a, b, c, d, e] ∧ IsPairs w a n.pairs ∧ IsStrs w b n.pivots ∧ IsInts w c n.kids ∧ IsSums w d n.sums ∧ IsMsgs w e n.buf
theorem IsNode.below {w w' : World} {v : Value} {n : Nd} (h : IsNode w v n) (hb : Below w.heap.size w w') : IsNode w' v n := by
  obtain ⟨a, b, c, d, e, h0, h1, h2, h3, h4, h5⟩ := h
  exact ⟨a, b, c, d, e, h0, h1.below hb, h2.below hb, h3.below hb, h4.below hb, h5.below hb⟩
open Go.RowKit Go.Sort
def IsAny {α : Type} (en : α → List Value) (k : Nat) (w : World) (v : Value) (l : List α) : Prop :=
  ∃ a cap, v = .slice a l.length cap ∧ (l ≠ [] → ∃ b off, a = some ⟨b, off, none⟩ ∧ ∀ i (h : i < l.length) (j : Nat) (u : Value), (en l[i])[j]? = some u → w.cell? ⟨b, off + i * k + j, none⟩ = some u)
theorem flat_any {α : Type} {en : α → List Value} {k : Nat} (hen : ∀ x, (en x).length = k) : ∀ (l : List α) (j : Nat) (u : Value), (l.flatMap en)[j]? = some u → ∃ i r, ∃ h : i < l.length, j = i * k + r ∧ (en l[i])[r]? = some u
  | [], j, u, h => by simp at h
  | x :: l, j, u, h => by
    rw [List.flatMap_cons] at h
    by_cases hj : j < k
    · rw [List.getElem?_append_left (by rw [hen]; exact hj)] at h
      exact ⟨0, j, by simp, by simp, h⟩
    · rw [List.getElem?_append_right (by rw [hen]; omega), hen] at h
      obtain ⟨i, r, hi, e, hu⟩ := flat_any hen l (j - k) u h
      exact ⟨i + 1, r, by simpa using hi, by rw [Nat.succ_mul]; omega, hu⟩
theorem flat_lenA {α : Type} {en : α → List Value} {k : Nat} (hen : ∀ x, (en x).length = k) (l : List α) : (l.flatMap en).length = l.length * k := by
  induction l with
  | nil => simp
  | cons x l ih => rw [List.flatMap_cons, List.length_append, hen, ih, List.length_cons, Nat.succ_mul]; omega
theorem append_any {α : Type} {en : α → List Value} {w : World} {ops : Array Oper} {rest : List Oper} {o : Oper} {a : Act} {Q : Exit → Act → World → Prop} (hgd : o.guard = none) (s x : Operand) (t e : TypeId) (z : Value) (k bytes : Nat)
    (info : (Try.prog.info? e).map (fun i => (i.zero, i.size, i.bytes)) = some (some z, k, bytes)) (ht : Try.prog.underlying t = some (.slice e)) (hzs : z.cells.size = k) (hk : 0 < k) (hby : bytes ≤ 1000) (hen : ∀ y, (en y).length = k) (h1 : ∀ y, ∀ u ∈ en y, u.oneCell' = true)
    (ho : o.op = .call { callee := .builtin .append, args := #[s, x], argTypes := #[t, t] }) (base : Nat) (v : Value) (l : List α) (hs : a.eval s = v) (hown : w.ownsRow base e k v l.length (l.flatMap en))
    (u : Value) (m : List α) (hx : a.eval x = u) (hp : IsAny en k w u m) (hl : l.length + m.length ≤ 1000000000) (hbase : base ≤ w.heap.size)
    (h : ∀ v' w', w'.ownsRow base e k v' (l ++ m).length ((l ++ m).flatMap en) → Below base w w' → wpList Try.prog ops Q rest (a.put o.dst v') w') : wpList Try.prog ops Q (o :: rest) a w := by
  obtain ⟨i0, hi, hz0, hz1, hz2⟩ := info_parts info
  obtain ⟨p, cap, rfl, hpp⟩ := hp
  refine append_gen hgd s x t e i0 z k bytes ht hi hz0 hz1 hz2 hzs hk hby ho base v l.length _ hs hown p m.length cap (m.flatMap en) hx (flat_lenA hen m) ?_ (fun u hu => ?_) hl hbase ?_
  · intro hm
    obtain ⟨b, off, rfl, hc⟩ := hpp (by rintro rfl; simp at hm)
    refine ⟨_, rfl, cells_at fun j u hj => ?_⟩
    obtain ⟨i, r, hi', rfl, hu⟩ := flat_any hen m j u hj
    rw [← Nat.add_assoc]
    exact hc i hi' r u hu
  · obtain ⟨y, _, hy⟩ := List.mem_flatMap.1 hu
    exact h1 y u hy
  · intro v' w' h2 h3
    refine h v' w' ?_ h3
    rw [List.length_append, List.flatMap_append]; exact h2

end Go.Proofs.Ytlgangcldlphnaa
