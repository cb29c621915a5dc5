/-
  Walks: reference 05's Path and Key (out of NB, MD).
-/
import Derived.Test.YtlgangcldlphnaaPA
namespace Go.Proofs.Ytlgangcldlphnaa
open Go.RowKit Go.Sort
set_option linter.unusedVariables false

/-- Nothing that was there has changed. -/
structure SB (w wx : World) : Prop where
  g : Below w.heap.size w wx
theorem SB.below {w wx wy : World} (h : SB w wx) (hb : Below wx.heap.size wx wy) : SB w wy := ⟨h.g.trans (hb.mono h.g.size)⟩
theorem SB.drew {w wx : World} (h : SB w wx) : SB w wx.drew := h.below (below_drewN wx 1)
theorem SB.refl (w : World) : SB w w := ⟨Below.refl _ _⟩
def pathL : List Bs := [[97, 47], [98, 47], [97, 47, 98, 47], [99, 47], [100, 47]]
def tailL : List Bs := [[1], [2, 0, 0], [2, 0, 1], [2, 0, 2], [3, 120]]
def pathS (n : Nat) : Bs := pathL.getD (n % 5) []
def keyS (n : Nat) : Bs := pathS (n % 4) ++ tailL.getD (n / 4 % 5) []
theorem getD_len {L : List Bs} {b : Nat} (h : ∀ x ∈ L, x.length ≤ b) (i : Nat) : (L.getD i []).length ≤ b := by
  rw [List.getD_eq_getElem?_getD]
  cases e : L[i]? with
  | none => simp
  | some x => exact h x (List.mem_of_getElem? e)
theorem path_len (n : Nat) : (pathS n).length ≤ 4 := getD_len (L := pathL) (b := 4) (by decide) _
theorem tail_len (n : Nat) : (tailL.getD n []).length ≤ 3 := getD_len (L := tailL) (b := 3) (by decide) _
theorem key_len (n : Nat) : (keyS n).length ≤ 7 := by
  unfold keyS
  have := path_len (n % 4)
  have := tail_len (n / 4 % 5)
  rw [List.length_append]; omega
theorem strs_cell {W : World} {n : Nat} (L : List Bs) (T : TypeId) (i : Nat) (hi : i < L.length) (hn : n = W.heap.size) : (W.alloc (.cells (L.map fun s => Value.string (Str s)).toArray T)).cell? ⟨n, i, none⟩ = some (.string (Str (L.getD i []))) := by
  subst hn
  rw [World.cell?_alloc_new]
  simp [hi, List.getD_eq_getElem?_getD]
set_option maxRecDepth 100000 in
set_option maxHeartbeats 2000000 in
theorem path_w (n : Nat) (w : World) (hn : n < 256) : Calls Try.prog 52 #[.int .u8 n] w fun e w' => e = .returned (.string (Str (pathS n))) ∧ Below w.heap.size w w' := by
  have Hp : Hid (pathS n = pathL.getD (n % 5) []) := Lib.hid rfl
  have hm : n % 5 < 5 := Nat.mod_lt _ (by omega)
  have hz : (n : Int) % 5 = ((n % 5 : Nat) : Int) := by omega
  have h1 : (w.alloc (.cells #[.string ⟨#[97, 47]⟩, .string ⟨#[98, 47]⟩, .string ⟨#[97, 47, 98, 47]⟩, .string ⟨#[99, 47]⟩, .string ⟨#[100, 47]⟩] 9)).cell? ⟨w.heap.size, n % 5, none⟩ = _ := strs_cell pathL 9 (n % 5) hm rfl
  generalize n % 5 = m at *
  generalize pathL.getD m [] = r at *
  have hn' : (n : Int) < 256 := by omega
  have hm' : (m : Int) < 5 := by omega
  have hm0 : (0 : Int) ≤ (m : Int) := by omega
  clear hn
  go_enter Try.func52, Try.ntmps52
  go_wp2
  go_ret
  exact ⟨by rw [Hp.out]; rfl, below_box _⟩
theorem SB.alloc {w wx : World} (h : SB w wx) (o : Obj) : SB w (wx.alloc o) := h.below (below_box _)
set_option maxRecDepth 100000 in
set_option maxHeartbeats 4000000 in
set_option warningAsError false in
theorem key_w (n : Nat) (w : World) (hn : n < 256) : Calls Try.prog 37 #[.int .u8 n] w fun e w' => e = .returned (.string (Str (keyS n))) ∧ Below w.heap.size w w' := by
  have mixed := mixedA
  have Hp : Hid (keyS n = pathS (n % 4) ++ tailL.getD (n / 4 % 5) []) := Lib.hid rfl
  have hm4 : n % 4 < 4 := Nat.mod_lt _ (by omega)
  have hr5 : n / 4 % 5 < 5 := Nat.mod_lt _ (by omega)
  have hz4 : (n : Int) % 4 = ((n % 4 : Nat) : Int) := by omega
  have hzq : (n : Int) / 4 = ((n / 4 : Nat) : Int) := by omega
  have hzr : ((n / 4 : Nat) : Int) % 5 = ((n / 4 % 5 : Nat) : Int) := by omega
  have hq64 : n / 4 < 64 := by omega
  have hv : ∀ W : World, (W.alloc (.cells #[.string ⟨#[1]⟩, .string ⟨#[2, 0, 0]⟩, .string ⟨#[2, 0, 1]⟩, .string ⟨#[2, 0, 2]⟩, .string ⟨#[3, 120]⟩] 9)).cell? ⟨W.heap.size, n / 4 % 5, none⟩ = some (.string (Str (tailL.getD (n / 4 % 5) []))) := fun W => strs_cell tailL 9 (n / 4 % 5) hr5 rfl
  have l1 := path_len (n % 4)
  have l2 := tail_len (n / 4 % 5)
  have hk := Lib.hid (fun wx => path_w (n % 4) wx (by omega))
  generalize tailL.getD (n / 4 % 5) [] = pe at *
  generalize n / 4 % 5 = r at *
  generalize n / 4 = q at *
  generalize pathS (n % 4) = pa at *
  generalize n % 4 = m at *
  have hsum : ¬ 9223372036854775807 < pa.length + pe.length := by omega
  have hnz : (n : Int) < 256 := by omega
  have hmz : (m : Int) < 4 := by omega
  have hm0 : (0 : Int) ≤ (m : Int) := by omega
  have hqz : (q : Int) < 64 := by omega
  have hq0 : (0 : Int) ≤ (q : Int) := by omega
  have hrz : (r : Int) < 5 := by omega
  have hr0 : (0 : Int) ≤ (r : Int) := by omega
  have ht4 : (n : Int).tmod 4 = (m : Int) := by rw [Int.tmod_eq_emod_of_nonneg (by omega)]; exact hz4
  have htd : (n : Int).tdiv 4 = (q : Int) := by rw [Int.tdiv_eq_ediv_of_nonneg (by omega)]; exact hzq
  have htr : (q : Int).tmod 5 = (r : Int) := by rw [Int.tmod_eq_emod_of_nonneg (by omega)]; exact hzr
  have hwm : IntKind.u8.wrap (m : Int) = (m : Int) := by simp [IntKind.wrap, IntKind.bits, IntKind.signed]; omega
  have hwq : IntKind.u8.wrap (q : Int) = (q : Int) := by simp [IntKind.wrap, IntKind.bits, IntKind.signed]; omega
  have hwr : IntKind.u8.wrap (r : Int) = (r : Int) := by simp [IntKind.wrap, IntKind.bits, IntKind.signed]; omega
  clear hn
  go_enter Try.func37, Try.ntmps37
  go_wp2_with fail
  go_region_held3 (fun wr => SB w wr) (first | with_reducible assumption | exact SB.alloc (by with_reducible assumption) _ | exact (SB.refl w).drew)
    (first
      | (go_at_call 52; (with_reducible refine (hk.out _).mono ?_); rintro e w2 ⟨rfl, hb2⟩; have hs2 : SB w w2 := SB.below (by with_reducible assumption) hb2; first | (have k1 := (hb2.cell (p := ⟨w.heap.size, r, none⟩) (by simp)).trans (hv w)) | skip))
  all_goals
    go_wp2_with fail
    go_ret
    refine ⟨by (rw [Hp.out, ← Str_add]; rfl), ?_⟩
    exact SB.g (by with_reducible assumption)

end Go.Proofs.Ytlgangcldlphnaa
