/-
  Walks: the law's own pivots.
-/
import Derived.Test.YtfpcaoacbjhkgaaGreatUL
namespace Go.Proofs.YtfpcaoacbjhkgaaGreat
open Go.RowKit Go.Sort
set_option linter.unusedVariables false

def allP : List Bs := [[97, 47], [97, 47, 2], [97, 47, 98, 47], [97, 47, 99], [98, 47], [98, 47, 1], [99, 47], [100, 47]]
def bitB (n j : Nat) : Bool := decide (n / 2 ^ j % 2 = 1)
/-- The pivots of a number. -/
def pivU (n k : Nat) : List Bs := ((List.range k).filter fun j => bitB n j).map fun j => allP.getD j []
theorem pivU_succ (n k : Nat) : pivU n (k + 1) = pivU n k ++ if bitB n k then [allP.getD k []] else [] := by
  unfold pivU
  rw [List.range_succ, List.filter_append, List.map_append]
  congr 1
  cases h : bitB n k <;> simp [h]
theorem pivU_len (n k : Nat) : (pivU n k).length ≤ k := by
  unfold pivU
  rw [List.length_map]
  exact Nat.le_trans (List.length_filter_le _ _) (by simp)
theorem pivU_mem {n k : Nat} {x : Bs} (h : x ∈ pivU n k) : x.length ≤ 8 := by
  unfold pivU at h
  obtain ⟨j, -, rfl⟩ := List.mem_map.1 h
  have h2 : ∀ y ∈ allP, y.length ≤ 8 := by decide
  rw [List.getD_eq_getElem?_getD]
  cases h3 : allP[j]? with
  | none => simp
  | some y => exact h2 y (List.mem_of_getElem? h3)
theorem srtP_ofU : ∀ {l : List Bs}, l.Pairwise (fun a b => Op.bytesLess a b = true) → (∀ x ∈ l, x ≠ []) → SrtP l
  | [], _, _ => trivial
  | x :: l, h, hn => by
    obtain ⟨h1, h2⟩ := List.pairwise_cons.1 h
    exact ⟨hn x (by simp), h1, srtP_ofU h2 (fun y hy => hn y (by simp [hy]))⟩
theorem pivU_srt (n : Nat) : SrtP (pivU n 8) := by
  have h8 : (List.range 8).map (fun j => allP.getD j []) = allP := by decide
  have hs : (pivU n 8).Sublist allP := by
    unfold pivU
    conv => rhs; rw [← h8]
    exact List.filter_sublist.map _
  have hp : allP.Pairwise (fun a b => Op.bytesLess a b = true) := by decide
  have hn : ∀ x ∈ allP, x ≠ [] := by decide
  exact srtP_ofU (hp.sublist hs) (fun x hx => hn x (hs.subset hx))
theorem bit_eq : ∀ n : Fin 256, ∀ j : Fin 8, (bits BinOp.and IntKind.u8 ((n.1 : Int) / 2 ^ j.1) 1 == 1) = bitB n.1 j.1 := by decide +kernel
theorem all_cell (W : World) (T : TypeId) (j : Nat) (h : j < 8) : (W.alloc (.cells #[.string ⟨#[97, 47]⟩, .string ⟨#[97, 47, 2]⟩, .string ⟨#[97, 47, 98, 47]⟩, .string ⟨#[97, 47, 99]⟩, .string ⟨#[98, 47]⟩, .string ⟨#[98, 47, 1]⟩, .string ⟨#[99, 47]⟩, .string ⟨#[100, 47]⟩] T)).cell? ⟨W.heap.size, j, none⟩ = some (.string (Str (allP.getD j []))) := by
  rw [World.cell?_alloc_new]
  match j, h with
  | 0, _ => rfl
  | 1, _ => rfl
  | 2, _ => rfl
  | 3, _ => rfl
  | 4, _ => rfl
  | 5, _ => rfl
  | 6, _ => rfl
  | 7, _ => rfl
set_option maxRecDepth 100000 in
set_option maxHeartbeats 4000000 in
theorem pivots9_w (n : Nat) (w : World) (hn : n < 256) : Calls Tryz.prog 27 #[.int .u8 n] w fun e w' => ∃ v', e = .returned v' ∧ IsStrs w' v' (pivU n 8) ∧ Below w.heap.size w w' := by
  have mixed := mixedA
  obtain ⟨W1, hW1⟩ : ∃ W1, W1 = w.alloc (.cells #[.string ⟨#[97, 47]⟩, .string ⟨#[97, 47, 2]⟩, .string ⟨#[97, 47, 98, 47]⟩, .string ⟨#[97, 47, 99]⟩, .string ⟨#[98, 47]⟩, .string ⟨#[98, 47, 1]⟩, .string ⟨#[99, 47]⟩, .string ⟨#[100, 47]⟩] 9) := ⟨_, rfl⟩
  have hb1 : Below w.heap.size w W1 := by rw [hW1]; exact below_box _
  have hs1 : W1.heap.size = w.heap.size + 1 := by rw [hW1]; simp
  have HAC : Hid (∀ j, j < 8 → W1.cell? ⟨w.heap.size, j, none⟩ = some (.string (Str (allP.getD j [])))) := Lib.hid (fun j h => by rw [hW1]; exact all_cell w _ j h)
  have HBT : Hid (∀ j, j < 8 → (bits BinOp.and IntKind.u8 ((n : Int) / 2 ^ j) 1 == 1) = bitB n j) := Lib.hid (fun j h => bit_eq ⟨n, hn⟩ ⟨j, h⟩)
  have HST := Lib.hid (fun j => pivU_succ n j)
  have HLN := Lib.hid (fun j => pivU_len n j)
  have H0 : Hid (pivU n 0 = []) := Lib.hid rfl
  have HW1 := Lib.hid hW1
  have HB1 := Lib.hid hb1
  have HS1 := Lib.hid hs1
  clear hW1 hb1 hs1 hn
  generalize pivU n = P at *
  generalize bitB n = Bt at *
  go_enter Tryz.func27, Tryz.ntmps27
  go_wp2_with fail
  rw [← HW1.out]
  go_wp2
  go_loopw [4, 5] (fun o i wr => ∃ j : Nat, j ≤ 8 ∧ i = .int .i64 j ∧ wr.ownsRow W1.heap.size 9 1 o (P j).length (cellsK (P j)) ∧ Below W1.heap.size W1 wr) (fun _ i _ => 8 - (intOf i).toNat)
  case atStart => exact ⟨0, by omega, rfl, by rw [H0.out, ← HS1.out]; exact own_emptyK W1 W1.heap.size (Nat.le_refl _), below_box _⟩
  case round =>
    obtain ⟨j, hj, rfl, hown, hbel⟩ := hrel
    have Hown := Lib.hid hown
    have Hbel := Lib.hid hbel
    have hsz := hbel.size
    clear hown
    by_cases hlt : j < 8
    · have hltz : (j : Int) < 8 := by omega
      have hb := HBT.out j hlt
      have hc := (hbel.cell (p := ⟨w.heap.size, j, none⟩) (by have := HS1.out; exact (by omega : w.heap.size < W1.heap.size))).trans (HAC.out j hlt)
      have hst := HST.out j
      have hl1 := HLN.out j
      generalize allP.getD j [] = s at *
      clear hbel
      cases hbt : Bt j with
      | true =>
        rw [hbt] at hb hst
        rw [if_pos rfl] at hst
        have HE := Lib.hid hst
        clear hst hbt
        generalize P j = left at *
        go_wp2_with (at_builtin; refine append_strs rfl _ _ rfl W1.heap.size u4 left rfl (owns_below Hown.out (below_box _)) _ [s] rfl (one_strs (by first | rfl | simp) s) (by simp only [List.length_cons, List.length_nil]; omega) (Nat.le_trans hsz (by simp)) ?_; intro v3 w3 hown3 hb3; have HB3 : Hid (Below W1.heap.size W1 w3) := Lib.hid ((Hbel.out.alloc hsz _).trans hb3); have HO3 := Lib.hid hown3; clear hown3 hb3)
        rw [← HE.out] at HO3
        go_wp2
        go_roundw
        case rel => exact ⟨j + 1, by omega, by go_num, HO3.out, HB3.out⟩
        case measure => simp [intOf]; omega
      | false =>
        rw [hbt] at hb hst
        rw [if_neg (by simp), List.append_nil] at hst
        have HE := Lib.hid hst
        clear hst hbt
        have Hown2 := Lib.hid Hown.out
        rw [← HE.out] at Hown2
        go_wp2
        go_roundw
        case rel => exact ⟨j + 1, by omega, by go_num, Hown2.out, Hbel.out⟩
        case measure => simp [intOf]; omega
    · obtain rfl : j = 8 := by omega
      have HF := Lib.hid (HB1.out.trans (hbel.mono HB1.out.size))
      clear hbel
      go_wp2
      go_ret
      exact ⟨_, rfl, IsStrs.owned Hown.out, HF.out⟩

end Go.Proofs.YtfpcaoacbjhkgaaGreat
