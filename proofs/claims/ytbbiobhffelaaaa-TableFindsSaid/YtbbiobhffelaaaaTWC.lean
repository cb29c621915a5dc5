/-
  Walks: the reference's choice of keys, pairs, tables and spans.
-/
import Derived.Test.YtbbiobhffelaaaaTWB
namespace Go.Proofs.Ytbbiobhffelaaaa
open Go.RowKit Go.Sort
set_option linter.unusedVariables false

def pathL : List Bs := [[97, 47], [98, 47], [97, 47, 98, 47], [99, 47]]
def endL : List Bs := [[1], [2, 0, 0], [2, 0, 1], [2, 0, 2], [3, 120]]
def otherL : List Bs := [[1], [5, 48, 48, 48, 48, 48, 48, 48, 49, 47, 1], [6, 97, 47, 1], [97, 47, 98, 47, 99, 47, 1]]
def keyS (n : Nat) : Bs := if n % 24 < 20 then pathL.getD (n % 24 / 5) [] ++ endL.getD (n % 24 % 5) [] else otherL.getD (n % 24 - 20) []
theorem keyS_len (n : Nat) : (keyS n).length ≤ 20 := by
  have h : ∀ m < 24, (keyS m).length ≤ 20 := by decide +kernel
  have e : keyS n = keyS (n % 24) := by unfold keyS; rw [Nat.mod_mod]
  rw [e]; exact h _ (Nat.mod_lt _ (by omega))
def valL : List Bs := [[], [118], [119, 120], [120, 121, 122]]
def pairS (a b c : Nat) : Pr := (keyS a, valL.getD (b % 4) [], (c % 4 : Nat))
def preL : List Bs := [[], [97, 47], [98, 47], [97, 47, 98, 47], [97, 47, 2], [99, 47]]
def prefS (n : Nat) : Bs := preL.getD (n % 6) []
theorem strs_cell {W : World} {n : Nat} (L : List Bs) (T : TypeId) (i : Nat) (hi : i < L.length) (hn : n = W.heap.size) : (W.alloc (.cells (L.map fun s => Value.string (Str s)).toArray T)).cell? ⟨n, i, none⟩ = some (.string (Str (L.getD i []))) := by
  subst hn
  rw [World.cell?_alloc_new]
  simp [hi, List.getD_eq_getElem?_getD]

set_option maxRecDepth 100000 in
set_option maxHeartbeats 2000000 in
theorem prefix4_w (n : Nat) (w : World) (hn : n < 256) : Calls Try.prog 28 #[.int .u8 n] w fun e w' => e = .returned (.string (Str (prefS n))) ∧ Below w.heap.size w w' := by
  have Hp : Hid (prefS n = preL.getD (n % 6) []) := Lib.hid rfl
  have hm : n % 6 < 6 := Nat.mod_lt _ (by omega)
  have hz : (n : Int) % 6 = ((n % 6 : Nat) : Int) := by omega
  have h1 : (w.alloc (.cells #[.string ⟨#[]⟩, .string ⟨#[97, 47]⟩, .string ⟨#[98, 47]⟩, .string ⟨#[97, 47, 98, 47]⟩, .string ⟨#[97, 47, 2]⟩, .string ⟨#[99, 47]⟩] 9)).cell? ⟨w.heap.size, n % 6, none⟩ = _ := strs_cell preL 9 (n % 6) hm rfl
  generalize n % 6 = m at *
  generalize preL.getD m [] = r at *
  have hn' : (n : Int) < 256 := by omega
  have hm' : (m : Int) < 6 := by omega
  have hm0 : (0 : Int) ≤ (m : Int) := by omega
  clear hn
  go_enter Try.func28, Try.ntmps28
  go_wp2
  go_ret
  exact ⟨by rw [Hp.out]; rfl, below_box _⟩

theorem getD_len {L : List Bs} {b : Nat} (h : ∀ x ∈ L, x.length ≤ b) (i : Nat) : (L.getD i []).length ≤ b := by
  rw [List.getD_eq_getElem?_getD]
  cases e : L[i]? with
  | none => simp
  | some x => exact h x (List.mem_of_getElem? e)
set_option maxRecDepth 100000 in
set_option maxHeartbeats 2000000 in
theorem key_w (n : Nat) (w : World) (hn : n < 256) : Calls Try.prog 15 #[.int .u8 n] w fun e w' => e = .returned (.string (Str (keyS n))) ∧ Below w.heap.size w w' := by
  have mixed := mixedA
  have hz : (n : Int) % 24 = ((n % 24 : Nat) : Int) := by omega
  have hm : n % 24 < 24 := Nat.mod_lt _ (by omega)
  by_cases hlt : n % 24 < 20
  · have Hp : Hid (keyS n = pathL.getD (n % 24 / 5) [] ++ endL.getD (n % 24 % 5) []) := Lib.hid (by unfold keyS; rw [if_pos hlt])
    have h1 : ((w.alloc (.cells #[.string ⟨#[97, 47]⟩, .string ⟨#[98, 47]⟩, .string ⟨#[97, 47, 98, 47]⟩, .string ⟨#[99, 47]⟩] 9)).alloc (.cells #[.string ⟨#[1]⟩, .string ⟨#[2, 0, 0]⟩, .string ⟨#[2, 0, 1]⟩, .string ⟨#[2, 0, 2]⟩, .string ⟨#[3, 120]⟩] 9)).cell? ⟨w.heap.size, n % 24 / 5, none⟩ = _ := (World.cell?_alloc_lt _ _ _ (by simp)).trans (strs_cell pathL 9 (n % 24 / 5) (by show _ < 4; omega) rfl)
    have h2 : ((w.alloc (.cells #[.string ⟨#[97, 47]⟩, .string ⟨#[98, 47]⟩, .string ⟨#[97, 47, 98, 47]⟩, .string ⟨#[99, 47]⟩] 9)).alloc (.cells #[.string ⟨#[1]⟩, .string ⟨#[2, 0, 0]⟩, .string ⟨#[2, 0, 1]⟩, .string ⟨#[2, 0, 2]⟩, .string ⟨#[3, 120]⟩] 9)).cell? ⟨w.heap.size + 1, n % 24 % 5, none⟩ = _ := strs_cell endL 9 (n % 24 % 5) (Nat.mod_lt _ (by decide)) (by simp)
    have l1 := getD_len (L := pathL) (b := 10) (by decide) (n % 24 / 5)
    have l2 := getD_len (L := endL) (b := 10) (by decide) (n % 24 % 5)
    have hq : ((n % 24 : Nat) : Int) / 5 = ((n % 24 / 5 : Nat) : Int) := by omega
    have hr : ((n % 24 : Nat) : Int) % 5 = ((n % 24 % 5 : Nat) : Int) := by omega
    have hq4 : n % 24 / 5 < 4 := by omega
    have hr5 : n % 24 % 5 < 5 := Nat.mod_lt _ (by omega)
    generalize pathL.getD (n % 24 / 5) [] = pa at *
    generalize endL.getD (n % 24 % 5) [] = pe at *
    generalize n % 24 / 5 = q at *
    generalize n % 24 % 5 = r at *
    generalize n % 24 = m at *
    have h1' := fun k => (drewN_cell _ k _).trans h1
    have h2' := fun k => (drewN_cell _ k _).trans h2
    have hn' : (n : Int) < 256 := by omega
    have hm' : (m : Int) < 20 := by omega
    have hm0 : (0 : Int) ≤ (m : Int) := by omega
    have hqz : (q : Int) < 4 := by omega
    have hrz : (r : Int) < 5 := by omega
    have hq0 : (0 : Int) ≤ (q : Int) := by omega
    have hr0 : (0 : Int) ≤ (r : Int) := by omega
    have hsum : ¬ 9223372036854775807 < pa.length + pe.length := by omega
    clear hn h1 h2
    go_enter Try.func15, Try.ntmps15
    go_wp2_with fail
    go_quiet (fail)
    go_wp2
    go_ret
    exact ⟨by rw [Hp.out, ← Str_add]; rfl, ((below_box _).alloc (by simp) _).trans (below_drewN _ _)⟩
  · have Hp : Hid (keyS n = otherL.getD (n % 24 - 20) []) := Lib.hid (by unfold keyS; rw [if_neg hlt])
    have h1 : (((w.alloc (.cells #[.string ⟨#[97, 47]⟩, .string ⟨#[98, 47]⟩, .string ⟨#[97, 47, 98, 47]⟩, .string ⟨#[99, 47]⟩] 9)).alloc (.cells #[.string ⟨#[1]⟩, .string ⟨#[2, 0, 0]⟩, .string ⟨#[2, 0, 1]⟩, .string ⟨#[2, 0, 2]⟩, .string ⟨#[3, 120]⟩] 9)).alloc (.cells #[.string ⟨#[1]⟩, .string ⟨#[5, 48, 48, 48, 48, 48, 48, 48, 49, 47, 1]⟩, .string ⟨#[6, 97, 47, 1]⟩, .string ⟨#[97, 47, 98, 47, 99, 47, 1]⟩] 9)).cell? ⟨w.heap.size + 1 + 1, n % 24 - 20, none⟩ = _ := strs_cell otherL 9 (n % 24 - 20) (by show _ < 4; omega) (by simp)
    have hq : ((n % 24 : Nat) : Int) - 20 = ((n % 24 - 20 : Nat) : Int) := by omega
    have hq4 : n % 24 - 20 < 4 := by omega
    generalize otherL.getD (n % 24 - 20) [] = po at *
    generalize n % 24 - 20 = q at *
    generalize n % 24 = m at *
    have hn' : (n : Int) < 256 := by omega
    have hm' : 20 ≤ (m : Int) := by omega
    have hm24 : (m : Int) < 24 := by omega
    have hqz : (q : Int) < 4 := by omega
    have hq0 : (0 : Int) ≤ (q : Int) := by omega
    clear hn
    go_enter Try.func15, Try.ntmps15
    go_wp2
    go_ret
    exact ⟨by rw [Hp.out]; rfl, ((below_box _).alloc (by simp) _).alloc (by simp; omega) _⟩

end Go.Proofs.Ytbbiobhffelaaaa
