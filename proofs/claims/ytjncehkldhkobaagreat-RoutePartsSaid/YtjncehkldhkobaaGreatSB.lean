/-
  Walks: the fixed examples of package route.
-/
import Derived.Test.YtjncehkldhkobaaGreatSA
namespace Go.Proofs.YtjncehkldhkobaaGreat
open Go.RowKit Go.Sort
set_option linter.unusedVariables false

theorem srt_b : SrtP ([[98, 47]] : List Bs) := ⟨by simp, fun q h => by (cases h), trivial⟩
theorem newM {n : Nat} (W : World) (L : List Ms) (hn : n = W.heap.size) (hl : L.length ≤ 1000) : IsMsgs (W.alloc (.cells (L.flatMap encML).toArray 40)) (.slice (some ⟨n, 0, none⟩) L.length L.length) L := by
  subst hn
  refine OwnM.msgs (B := W.heap.size) ⟨(flatM_len L), .inr ⟨W.heap.size, L.length, (L.flatMap encML).toArray, rfl, Nat.le_refl _, Blk.new _ _ _, Nat.le_refl _, by unfold maxLen; omega, by rw [List.size_toArray, flatM_len], List.take_of_length_le (by rw [flatM_len]; exact Nat.le_refl _)⟩⟩
theorem k_ax (v : Value) (w : World) (h : IsStrs w v [[98, 47]]) : Calls Tryz.prog 15 #[.string ⟨#[97, 47, 120]⟩, v] w fun e w' => e = .returned (.int .i64 0) ∧ Below w.heap.size w w' := (kid_w v [[98, 47]] [97, 47, 120] w h srt_b (by decide)).mono fun e w' ⟨h1, h2⟩ => ⟨h1, h2.below (Nat.le_refl _)⟩
theorem k_b (v : Value) (w : World) (h : IsStrs w v [[98, 47]]) : Calls Tryz.prog 15 #[.string ⟨#[98, 47]⟩, v] w fun e w' => e = .returned (.int .i64 1) ∧ Below w.heap.size w w' := (kid_w v [[98, 47]] [98, 47] w h srt_b (by decide)).mono fun e w' ⟨h1, h2⟩ => ⟨h1, h2.below (Nat.le_refl _)⟩
theorem k_o (w : World) : Calls Tryz.prog 15 #[.string ⟨#[]⟩, .slice none 0 0] w fun e w' => e = .returned (.int .i64 0) ∧ Below w.heap.size w w' := (kid_w (.slice none 0 0) [] [] w ⟨none, 0, rfl, Nat.le_refl _, Nat.zero_le _, fun h => absurd rfl h⟩ trivial (by decide)).mono fun e w' ⟨h1, h2⟩ => ⟨h1, h2.below (Nat.le_refl _)⟩
theorem x_mab (v : Value) (w : World) (h : IsStrs w v [[98, 47]]) : Calls Tryz.prog 20 #[.agg #[.int .i64 4, .string ⟨#[]⟩, .string ⟨#[]⟩, .string ⟨#[]⟩, .string ⟨#[]⟩, .string ⟨#[97, 47]⟩, .string ⟨#[98, 47]⟩, .int .i64 0], v] w fun e w' => e = .returned (.bool true) ∧ Below w.heap.size w w' := (crosses_w (⟨4, [], [], [], [], [97, 47], [98, 47], 0⟩ : Ms) v [[98, 47]] w (by unfold SizeM; decide) h srt_b (by decide)).mono fun e w' ⟨h1, h2⟩ => ⟨h1.trans (by rw [show crossB (⟨4, [], [], [], [], [97, 47], [98, 47], 0⟩ : Ms) [[98, 47]] = true from by decide +kernel]), h2⟩
theorem x_mbc (v : Value) (w : World) (h : IsStrs w v [[98, 47]]) : Calls Tryz.prog 20 #[.agg #[.int .i64 4, .string ⟨#[]⟩, .string ⟨#[]⟩, .string ⟨#[]⟩, .string ⟨#[]⟩, .string ⟨#[98, 47]⟩, .string ⟨#[99, 47]⟩, .int .i64 0], v] w fun e w' => e = .returned (.bool false) ∧ Below w.heap.size w w' := (crosses_w (⟨4, [], [], [], [], [98, 47], [99, 47], 0⟩ : Ms) v [[98, 47]] w (by unfold SizeM; decide) h srt_b (by decide)).mono fun e w' ⟨h1, h2⟩ => ⟨h1.trans (by rw [show crossB (⟨4, [], [], [], [], [98, 47], [99, 47], 0⟩ : Ms) [[98, 47]] = false from by decide +kernel]), h2⟩
theorem x_dac (v : Value) (w : World) (h : IsStrs w v [[98, 47]]) : Calls Tryz.prog 20 #[.agg #[.int .i64 3, .string ⟨#[]⟩, .string ⟨#[]⟩, .string ⟨#[97, 47]⟩, .string ⟨#[99, 47]⟩, .string ⟨#[]⟩, .string ⟨#[]⟩, .int .i64 0], v] w fun e w' => e = .returned (.bool false) ∧ Below w.heap.size w w' := (crosses_w (⟨3, [], [], [97, 47], [99, 47], [], [], 0⟩ : Ms) v [[98, 47]] w (by unfold SizeM; decide) h srt_b (by decide)).mono fun e w' ⟨h1, h2⟩ => ⟨h1.trans (by rw [show crossB (⟨3, [], [], [97, 47], [99, 47], [], [], 0⟩ : Ms) [[98, 47]] = false from by decide +kernel]), h2⟩
theorem t_d (w : World) : Calls Tryz.prog 23 #[.agg #[.int .i64 3, .string ⟨#[]⟩, .string ⟨#[]⟩, .string ⟨#[97, 47]⟩, .string ⟨#[99, 47]⟩, .string ⟨#[]⟩, .string ⟨#[]⟩, .int .i64 0], .agg #[.string ⟨#[]⟩, .string ⟨#[98, 47]⟩]] w fun e w' => ∃ p c, e = .returned (.slice p 1 c) ∧ IsMsgs w' (.slice p 1 c) [(⟨3, [], [], [97, 47], [98, 47], [], [], 0⟩ : Ms)] ∧ Below w.heap.size w w' := (part_w (⟨3, [], [], [97, 47], [99, 47], [], [], 0⟩ : Ms) ([], [98, 47]) w (by unfold SizeM; decide)).mono fun e w' ⟨v', h1, h2, h3⟩ => by
  rw [show partR (⟨3, [], [], [97, 47], [99, 47], [], [], 0⟩ : Ms) ([], [98, 47]) = [(⟨3, [], [], [97, 47], [98, 47], [], [], 0⟩ : Ms)] from by decide +kernel] at h2
  obtain ⟨p, c, rfl, -⟩ := id h2
  exact ⟨p, c, h1, h2, h3.below (Nat.le_refl _)⟩
theorem t_p (w : World) : Calls Tryz.prog 23 #[.agg #[.int .i64 1, .string ⟨#[98, 47]⟩, .string ⟨#[]⟩, .string ⟨#[]⟩, .string ⟨#[]⟩, .string ⟨#[]⟩, .string ⟨#[]⟩, .int .i64 0], .agg #[.string ⟨#[]⟩, .string ⟨#[98, 47]⟩]] w fun e w' => ∃ p c, e = .returned (.slice p 0 c) ∧ Below w.heap.size w w' := (part_w (⟨1, [98, 47], [], [], [], [], [], 0⟩ : Ms) ([], [98, 47]) w (by unfold SizeM; decide)).mono fun e w' ⟨v', h1, h2, h3⟩ => by
  rw [show partR (⟨1, [98, 47], [], [], [], [], [], 0⟩ : Ms) ([], [98, 47]) = [] from by decide +kernel] at h2
  obtain ⟨p, c, rfl, -⟩ := id h2
  exact ⟨p, c, h1, h3.below (Nat.le_refl _)⟩
theorem r_a (v vl : Value) (w : World) (h : IsMsgs w v [(⟨1, [97, 47, 120], [], [], [], [], [], 0⟩ : Ms), (⟨3, [], [], [97, 47], [99, 47], [], [], 0⟩ : Ms), (⟨1, [97, 47, 121], [], [], [], [], [], 0⟩ : Ms)]) (hl : IsStrs w vl [[98, 47]]) : Calls Tryz.prog 18 #[v, vl, .int .i64 0] w fun e w' => ∃ p q c d, e = .returned (.agg #[.slice p 3 c, .slice q 1 d, .slice none 0 0]) ∧ IsMsgs w' (.slice p 3 c) [(⟨1, [97, 47, 120], [], [], [], [], [], 0⟩ : Ms), (⟨3, [], [], [97, 47], [98, 47], [], [], 0⟩ : Ms), (⟨1, [97, 47, 121], [], [], [], [], [], 0⟩ : Ms)] ∧ IsMsgs w' (.slice q 1 d) [(⟨3, [], [], [98, 47], [99, 47], [], [], 0⟩ : Ms)] ∧ Below w.heap.size w w' := by
  refine (lready_w v vl _ _ 0 w h hl (by unfold SizeM; decide) (by unfold FullM; decide) (by decide) (by unfold SizeP; decide) (by decide) (by decide)).mono ?_
  rintro e w' ⟨v1, v2, rfl, h1, h2, h3⟩
  have g1 := h1.msgs
  have g2 := h2.msgs
  rw [show readyW (kidSp [[98, 47]] 0) [(⟨1, [97, 47, 120], [], [], [], [], [], 0⟩ : Ms), (⟨3, [], [], [97, 47], [99, 47], [], [], 0⟩ : Ms), (⟨1, [97, 47, 121], [], [], [], [], [], 0⟩ : Ms)] = ([(⟨1, [97, 47, 120], [], [], [], [], [], 0⟩ : Ms), (⟨3, [], [], [97, 47], [98, 47], [], [], 0⟩ : Ms), (⟨1, [97, 47, 121], [], [], [], [], [], 0⟩ : Ms)], [(⟨3, [], [], [98, 47], [99, 47], [], [], 0⟩ : Ms)], (readyW (kidSp [[98, 47]] 0) [(⟨1, [97, 47, 120], [], [], [], [], [], 0⟩ : Ms), (⟨3, [], [], [97, 47], [99, 47], [], [], 0⟩ : Ms), (⟨1, [97, 47, 121], [], [], [], [], [], 0⟩ : Ms)]).2.2) from Prod.ext (by decide +kernel) (Prod.ext (by decide +kernel) rfl)] at g1 g2
  obtain ⟨p, c, rfl, -⟩ := id g1
  obtain ⟨q, d, rfl, -⟩ := id g2
  exact ⟨p, q, c, d, rfl, g1, g2, h3⟩
theorem r_b (v vl : Value) (w : World) (h : IsMsgs w v [(⟨4, [], [], [], [], [97, 47], [99, 47], 0⟩ : Ms), (⟨1, [97, 47, 120], [], [], [], [], [], 0⟩ : Ms), (⟨1, [97, 97], [], [], [], [], [], 0⟩ : Ms)]) (hl : IsStrs w vl [[98, 47]]) : Calls Tryz.prog 18 #[v, vl, .int .i64 0] w fun e w' => ∃ p q c d, e = .returned (.agg #[.slice p 1 c, .slice q 2 d, .slice none 0 0]) ∧ IsMsgs w' (.slice p 1 c) [(⟨1, [97, 97], [], [], [], [], [], 0⟩ : Ms)] ∧ IsMsgs w' (.slice q 2 d) [(⟨4, [], [], [], [], [97, 47], [99, 47], 0⟩ : Ms), (⟨1, [97, 47, 120], [], [], [], [], [], 0⟩ : Ms)] ∧ Below w.heap.size w w' := by
  refine (lready_w v vl _ _ 0 w h hl (by unfold SizeM; decide) (by unfold FullM; decide) (by decide) (by unfold SizeP; decide) (by decide) (by decide)).mono ?_
  rintro e w' ⟨v1, v2, rfl, h1, h2, h3⟩
  have g1 := h1.msgs
  have g2 := h2.msgs
  rw [show readyW (kidSp [[98, 47]] 0) [(⟨4, [], [], [], [], [97, 47], [99, 47], 0⟩ : Ms), (⟨1, [97, 47, 120], [], [], [], [], [], 0⟩ : Ms), (⟨1, [97, 97], [], [], [], [], [], 0⟩ : Ms)] = ([(⟨1, [97, 97], [], [], [], [], [], 0⟩ : Ms)], [(⟨4, [], [], [], [], [97, 47], [99, 47], 0⟩ : Ms), (⟨1, [97, 47, 120], [], [], [], [], [], 0⟩ : Ms)], (readyW (kidSp [[98, 47]] 0) [(⟨4, [], [], [], [], [97, 47], [99, 47], 0⟩ : Ms), (⟨1, [97, 47, 120], [], [], [], [], [], 0⟩ : Ms), (⟨1, [97, 97], [], [], [], [], [], 0⟩ : Ms)]).2.2) from Prod.ext (by decide +kernel) (Prod.ext (by decide +kernel) rfl)] at g1 g2
  obtain ⟨p, c, rfl, -⟩ := id g1
  obtain ⟨q, d, rfl, -⟩ := id g2
  exact ⟨p, q, c, d, rfl, g1, g2, h3⟩
theorem r_c (v vl : Value) (w : World) (h : IsMsgs w v [(⟨4, [], [], [], [], [97, 47], [99, 47], 0⟩ : Ms), (⟨1, [97, 47, 120], [], [], [], [], [], 0⟩ : Ms), (⟨1, [97, 97], [], [], [], [], [], 0⟩ : Ms)]) (hl : IsStrs w vl [[98, 47]]) : Calls Tryz.prog 18 #[v, vl, .int .i64 1] w fun e w' => ∃ p q c d, e = .returned (.agg #[.slice p 0 c, .slice q 3 d, .slice none 0 0]) ∧ IsMsgs w' (.slice p 0 c) [] ∧ IsMsgs w' (.slice q 3 d) [(⟨4, [], [], [], [], [97, 47], [99, 47], 0⟩ : Ms), (⟨1, [97, 47, 120], [], [], [], [], [], 0⟩ : Ms), (⟨1, [97, 97], [], [], [], [], [], 0⟩ : Ms)] ∧ Below w.heap.size w w' := by
  refine (lready_w v vl _ _ 1 w h hl (by unfold SizeM; decide) (by unfold FullM; decide) (by decide) (by unfold SizeP; decide) (by decide) (by decide)).mono ?_
  rintro e w' ⟨v1, v2, rfl, h1, h2, h3⟩
  have g1 := h1.msgs
  have g2 := h2.msgs
  rw [show readyW (kidSp [[98, 47]] 1) [(⟨4, [], [], [], [], [97, 47], [99, 47], 0⟩ : Ms), (⟨1, [97, 47, 120], [], [], [], [], [], 0⟩ : Ms), (⟨1, [97, 97], [], [], [], [], [], 0⟩ : Ms)] = ([], [(⟨4, [], [], [], [], [97, 47], [99, 47], 0⟩ : Ms), (⟨1, [97, 47, 120], [], [], [], [], [], 0⟩ : Ms), (⟨1, [97, 97], [], [], [], [], [], 0⟩ : Ms)], (readyW (kidSp [[98, 47]] 1) [(⟨4, [], [], [], [], [97, 47], [99, 47], 0⟩ : Ms), (⟨1, [97, 47, 120], [], [], [], [], [], 0⟩ : Ms), (⟨1, [97, 97], [], [], [], [], [], 0⟩ : Ms)]).2.2) from Prod.ext (by decide +kernel) (Prod.ext (by decide +kernel) rfl)] at g1 g2
  obtain ⟨p, c, rfl, -⟩ := id g1
  obtain ⟨q, d, rfl, -⟩ := id g2
  exact ⟨p, q, c, d, rfl, g1, g2, h3⟩
theorem c_mab (w : World) : Calls Tryz.prog 42 #[.string ⟨#[97, 47]⟩, .string ⟨#[98, 47]⟩] w fun e w' => e = .returned (.agg #[.int .i64 4, .string ⟨#[]⟩, .string ⟨#[]⟩, .string ⟨#[]⟩, .string ⟨#[]⟩, .string ⟨#[97, 47]⟩, .string ⟨#[98, 47]⟩, .int .i64 0]) ∧ Below w.heap.size w w' := moveC_w [97, 47] [98, 47] w
theorem c_mbc (w : World) : Calls Tryz.prog 42 #[.string ⟨#[98, 47]⟩, .string ⟨#[99, 47]⟩] w fun e w' => e = .returned (.agg #[.int .i64 4, .string ⟨#[]⟩, .string ⟨#[]⟩, .string ⟨#[]⟩, .string ⟨#[]⟩, .string ⟨#[98, 47]⟩, .string ⟨#[99, 47]⟩, .int .i64 0]) ∧ Below w.heap.size w w' := moveC_w [98, 47] [99, 47] w
theorem c_dac (w : World) : Calls Tryz.prog 41 #[.string ⟨#[97, 47]⟩, .string ⟨#[99, 47]⟩] w fun e w' => e = .returned (.agg #[.int .i64 3, .string ⟨#[]⟩, .string ⟨#[]⟩, .string ⟨#[97, 47]⟩, .string ⟨#[99, 47]⟩, .string ⟨#[]⟩, .string ⟨#[]⟩, .int .i64 0]) ∧ Below w.heap.size w w' := dropC_w [97, 47] [99, 47] w
theorem c_dab (w : World) : Calls Tryz.prog 41 #[.string ⟨#[97, 47]⟩, .string ⟨#[98, 47]⟩] w fun e w' => e = .returned (.agg #[.int .i64 3, .string ⟨#[]⟩, .string ⟨#[]⟩, .string ⟨#[97, 47]⟩, .string ⟨#[98, 47]⟩, .string ⟨#[]⟩, .string ⟨#[]⟩, .int .i64 0]) ∧ Below w.heap.size w w' := dropC_w [97, 47] [98, 47] w
theorem n_dab {n : Nat} (W : World) (hn : n = W.heap.size) : IsMsgs (W.alloc (.cells #[.int .i64 3, .string ⟨#[]⟩, .string ⟨#[]⟩, .string ⟨#[97, 47]⟩, .string ⟨#[98, 47]⟩, .string ⟨#[]⟩, .string ⟨#[]⟩, .int .i64 0] 40)) (.slice (some ⟨n, 0, none⟩) 1 1) [(⟨3, [], [], [97, 47], [98, 47], [], [], 0⟩ : Ms)] := newM W [(⟨3, [], [], [97, 47], [98, 47], [], [], 0⟩ : Ms)] hn (by decide)
theorem c_pb (w : World) : Calls Tryz.prog 43 #[.string ⟨#[98, 47]⟩] w fun e w' => e = .returned (.agg #[.int .i64 1, .string ⟨#[98, 47]⟩, .string ⟨#[]⟩, .string ⟨#[]⟩, .string ⟨#[]⟩, .string ⟨#[]⟩, .string ⟨#[]⟩, .int .i64 0]) ∧ Below w.heap.size w w' := lput_w [98, 47] w
theorem c_pax (w : World) : Calls Tryz.prog 43 #[.string ⟨#[97, 47, 120]⟩] w fun e w' => e = .returned (.agg #[.int .i64 1, .string ⟨#[97, 47, 120]⟩, .string ⟨#[]⟩, .string ⟨#[]⟩, .string ⟨#[]⟩, .string ⟨#[]⟩, .string ⟨#[]⟩, .int .i64 0]) ∧ Below w.heap.size w w' := lput_w [97, 47, 120] w
theorem c_pay (w : World) : Calls Tryz.prog 43 #[.string ⟨#[97, 47, 121]⟩] w fun e w' => e = .returned (.agg #[.int .i64 1, .string ⟨#[97, 47, 121]⟩, .string ⟨#[]⟩, .string ⟨#[]⟩, .string ⟨#[]⟩, .string ⟨#[]⟩, .string ⟨#[]⟩, .int .i64 0]) ∧ Below w.heap.size w w' := lput_w [97, 47, 121] w
theorem n_pax_dac_pay {n : Nat} (W : World) (hn : n = W.heap.size) : IsMsgs (W.alloc (.cells #[.int .i64 1, .string ⟨#[97, 47, 120]⟩, .string ⟨#[]⟩, .string ⟨#[]⟩, .string ⟨#[]⟩, .string ⟨#[]⟩, .string ⟨#[]⟩, .int .i64 0, .int .i64 3, .string ⟨#[]⟩, .string ⟨#[]⟩, .string ⟨#[97, 47]⟩, .string ⟨#[99, 47]⟩, .string ⟨#[]⟩, .string ⟨#[]⟩, .int .i64 0, .int .i64 1, .string ⟨#[97, 47, 121]⟩, .string ⟨#[]⟩, .string ⟨#[]⟩, .string ⟨#[]⟩, .string ⟨#[]⟩, .string ⟨#[]⟩, .int .i64 0] 40)) (.slice (some ⟨n, 0, none⟩) 3 3) [(⟨1, [97, 47, 120], [], [], [], [], [], 0⟩ : Ms), (⟨3, [], [], [97, 47], [99, 47], [], [], 0⟩ : Ms), (⟨1, [97, 47, 121], [], [], [], [], [], 0⟩ : Ms)] := newM W [(⟨1, [97, 47, 120], [], [], [], [], [], 0⟩ : Ms), (⟨3, [], [], [97, 47], [99, 47], [], [], 0⟩ : Ms), (⟨1, [97, 47, 121], [], [], [], [], [], 0⟩ : Ms)] hn (by decide)
theorem n_pax_dab_pay {n : Nat} (W : World) (hn : n = W.heap.size) : IsMsgs (W.alloc (.cells #[.int .i64 1, .string ⟨#[97, 47, 120]⟩, .string ⟨#[]⟩, .string ⟨#[]⟩, .string ⟨#[]⟩, .string ⟨#[]⟩, .string ⟨#[]⟩, .int .i64 0, .int .i64 3, .string ⟨#[]⟩, .string ⟨#[]⟩, .string ⟨#[97, 47]⟩, .string ⟨#[98, 47]⟩, .string ⟨#[]⟩, .string ⟨#[]⟩, .int .i64 0, .int .i64 1, .string ⟨#[97, 47, 121]⟩, .string ⟨#[]⟩, .string ⟨#[]⟩, .string ⟨#[]⟩, .string ⟨#[]⟩, .string ⟨#[]⟩, .int .i64 0] 40)) (.slice (some ⟨n, 0, none⟩) 3 3) [(⟨1, [97, 47, 120], [], [], [], [], [], 0⟩ : Ms), (⟨3, [], [], [97, 47], [98, 47], [], [], 0⟩ : Ms), (⟨1, [97, 47, 121], [], [], [], [], [], 0⟩ : Ms)] := newM W [(⟨1, [97, 47, 120], [], [], [], [], [], 0⟩ : Ms), (⟨3, [], [], [97, 47], [98, 47], [], [], 0⟩ : Ms), (⟨1, [97, 47, 121], [], [], [], [], [], 0⟩ : Ms)] hn (by decide)
theorem c_dbc (w : World) : Calls Tryz.prog 41 #[.string ⟨#[98, 47]⟩, .string ⟨#[99, 47]⟩] w fun e w' => e = .returned (.agg #[.int .i64 3, .string ⟨#[]⟩, .string ⟨#[]⟩, .string ⟨#[98, 47]⟩, .string ⟨#[99, 47]⟩, .string ⟨#[]⟩, .string ⟨#[]⟩, .int .i64 0]) ∧ Below w.heap.size w w' := dropC_w [98, 47] [99, 47] w
theorem n_dbc {n : Nat} (W : World) (hn : n = W.heap.size) : IsMsgs (W.alloc (.cells #[.int .i64 3, .string ⟨#[]⟩, .string ⟨#[]⟩, .string ⟨#[98, 47]⟩, .string ⟨#[99, 47]⟩, .string ⟨#[]⟩, .string ⟨#[]⟩, .int .i64 0] 40)) (.slice (some ⟨n, 0, none⟩) 1 1) [(⟨3, [], [], [98, 47], [99, 47], [], [], 0⟩ : Ms)] := newM W [(⟨3, [], [], [98, 47], [99, 47], [], [], 0⟩ : Ms)] hn (by decide)
theorem c_mac (w : World) : Calls Tryz.prog 42 #[.string ⟨#[97, 47]⟩, .string ⟨#[99, 47]⟩] w fun e w' => e = .returned (.agg #[.int .i64 4, .string ⟨#[]⟩, .string ⟨#[]⟩, .string ⟨#[]⟩, .string ⟨#[]⟩, .string ⟨#[97, 47]⟩, .string ⟨#[99, 47]⟩, .int .i64 0]) ∧ Below w.heap.size w w' := moveC_w [97, 47] [99, 47] w
theorem c_paa (w : World) : Calls Tryz.prog 43 #[.string ⟨#[97, 97]⟩] w fun e w' => e = .returned (.agg #[.int .i64 1, .string ⟨#[97, 97]⟩, .string ⟨#[]⟩, .string ⟨#[]⟩, .string ⟨#[]⟩, .string ⟨#[]⟩, .string ⟨#[]⟩, .int .i64 0]) ∧ Below w.heap.size w w' := lput_w [97, 97] w
theorem msgs_front {w : World} {b off n cap : Nat} {l : List Ms} (h : IsMsgs w (.slice (some ⟨b, off, none⟩) n cap) l) (k : Nat) (hk : k ≤ l.length) : IsMsgs w (.slice (some ⟨b, off, none⟩) k cap) (l.take k) := by
  obtain ⟨a, c, he, h1, h2, h3⟩ := h
  cases he
  have hl : (l.take k).length = k := by rw [List.length_take]; omega
  refine ⟨_, cap, by rw [hl], by omega, h2, fun hne => ?_⟩
  obtain ⟨b', off', he, hb, hc⟩ := h3 (by rintro rfl; simp at hne)
  cases he
  refine ⟨b, off, rfl, hb, fun i hi => ?_⟩
  have := hc i (by omega)
  rw [List.getElem_take]; exact this
theorem msgs_tail {w : World} {b off n cap : Nat} {l : List Ms} (h : IsMsgs w (.slice (some ⟨b, off, none⟩) n cap) l) (k : Nat) (hk : k ≤ l.length) : IsMsgs w (.slice (some ⟨b, off + k * 8, none⟩) (n - k) (cap - k)) (l.drop k) := by
  obtain ⟨a, c, he, h1, h2, h3⟩ := h
  cases he
  refine ⟨_, cap - k, by rw [List.length_drop], by rw [List.length_drop]; omega, by omega, fun hne => ?_⟩
  obtain ⟨b', off', he, hb, hc⟩ := h3 (by rintro rfl; simp at hne)
  cases he
  refine ⟨b, _, rfl, hb, fun i hi => ?_⟩
  rw [List.length_drop] at hi
  have := hc (k + i) (by omega)
  rw [List.getElem_drop, show off + k * 8 + i * 8 = off + (k + i) * 8 by omega]; exact this
theorem n_mac_pax_paa {n : Nat} (W : World) (hn : n = W.heap.size) : IsMsgs (W.alloc (.cells #[.int .i64 4, .string ⟨#[]⟩, .string ⟨#[]⟩, .string ⟨#[]⟩, .string ⟨#[]⟩, .string ⟨#[97, 47]⟩, .string ⟨#[99, 47]⟩, .int .i64 0, .int .i64 1, .string ⟨#[97, 47, 120]⟩, .string ⟨#[]⟩, .string ⟨#[]⟩, .string ⟨#[]⟩, .string ⟨#[]⟩, .string ⟨#[]⟩, .int .i64 0, .int .i64 1, .string ⟨#[97, 97]⟩, .string ⟨#[]⟩, .string ⟨#[]⟩, .string ⟨#[]⟩, .string ⟨#[]⟩, .string ⟨#[]⟩, .int .i64 0] 40)) (.slice (some ⟨n, 0, none⟩) 3 3) [(⟨4, [], [], [], [], [97, 47], [99, 47], 0⟩ : Ms), (⟨1, [97, 47, 120], [], [], [], [], [], 0⟩ : Ms), (⟨1, [97, 97], [], [], [], [], [], 0⟩ : Ms)] := newM W [(⟨4, [], [], [], [], [97, 47], [99, 47], 0⟩ : Ms), (⟨1, [97, 47, 120], [], [], [], [], [], 0⟩ : Ms), (⟨1, [97, 97], [], [], [], [], [], 0⟩ : Ms)] hn (by decide)
set_option maxRecDepth 100000 in
set_option maxHeartbeats 8000000 in
theorem sanity_w (w : World) : Calls Tryz.prog 11 #[] w fun e w' => e = .returned (.bool true) ∧ Below w.heap.size w w' := by
  have mixed := mixedA
  go_enter Tryz.func11, Tryz.ntmps11
  go_wp2_with fail
  have hl : IsStrs (w.alloc (.cells #[.string ⟨#[98, 47]⟩] 9)) (.slice (some ⟨w.heap.size, 0, none⟩) 1 1) [[98, 47]] := one_strs rfl [98, 47]
  have hc : Below w.heap.size w (w.alloc (.cells #[.string ⟨#[98, 47]⟩] 9)) := below_box _
  generalize w.alloc (.cells #[.string ⟨#[98, 47]⟩] 9) = x0 at *
  refine (k_ax _ x0 hl).mono ?_
  rintro e w1 ⟨rfl, hb⟩
  have hl' := hl.below hb
  have hc' := hc.trans (hb.mono hc.size)
  clear hc hb hl
  have hl := hl'
  clear hl'
  have hc := hc'
  clear hc'
  go_wp2_with fail
  refine (k_b _ w1 hl).mono ?_
  rintro e w2 ⟨rfl, hb⟩
  have hl' := hl.below hb
  have hc' := hc.trans (hb.mono hc.size)
  clear hc hb hl
  have hl := hl'
  clear hl'
  have hc := hc'
  clear hc'
  go_wp2_with fail
  refine (k_o w2).mono ?_
  rintro e w3 ⟨rfl, hb⟩
  have hl' := hl.below hb
  have hc' := hc.trans (hb.mono hc.size)
  clear hc hb hl
  have hl := hl'
  clear hl'
  have hc := hc'
  clear hc'
  go_wp2_with fail
  refine (c_mab w3).mono ?_
  rintro e w4 ⟨rfl, hb⟩
  have hl' := hl.below hb
  have hc' := hc.trans (hb.mono hc.size)
  clear hc hb hl
  have hl := hl'
  clear hl'
  have hc := hc'
  clear hc'
  go_wp2_with fail
  refine (x_mab _ w4 hl).mono ?_
  rintro e w5 ⟨rfl, hb⟩
  have hl' := hl.below hb
  have hc' := hc.trans (hb.mono hc.size)
  clear hc hb hl
  have hl := hl'
  clear hl'
  have hc := hc'
  clear hc'
  go_wp2_with fail
  refine (c_mbc w5).mono ?_
  rintro e w6 ⟨rfl, hb⟩
  have hl' := hl.below hb
  have hc' := hc.trans (hb.mono hc.size)
  clear hc hb hl
  have hl := hl'
  clear hl'
  have hc := hc'
  clear hc'
  go_wp2_with fail
  refine (x_mbc _ w6 hl).mono ?_
  rintro e w7 ⟨rfl, hb⟩
  have hl' := hl.below hb
  have hc' := hc.trans (hb.mono hc.size)
  clear hc hb hl
  have hl := hl'
  clear hl'
  have hc := hc'
  clear hc'
  go_wp2_with fail
  refine (c_dac w7).mono ?_
  rintro e w8 ⟨rfl, hb⟩
  have hl' := hl.below hb
  have hc' := hc.trans (hb.mono hc.size)
  clear hc hb hl
  have hl := hl'
  clear hl'
  have hc := hc'
  clear hc'
  go_wp2_with fail
  refine (x_dac _ w8 hl).mono ?_
  rintro e w9 ⟨rfl, hb⟩
  have hl' := hl.below hb
  have hc' := hc.trans (hb.mono hc.size)
  clear hc hb hl
  have hl := hl'
  clear hl'
  have hc := hc'
  clear hc'
  go_wp2_with fail
  refine (c_dac w9).mono ?_
  rintro e w10 ⟨rfl, hb⟩
  have hl' := hl.below hb
  have hc' := hc.trans (hb.mono hc.size)
  clear hc hb hl
  have hl := hl'
  clear hl'
  have hc := hc'
  clear hc'
  go_wp2_with fail
  refine (t_d w10).mono ?_
  rintro e w11 ⟨p1, c1, rfl, hp1, hb⟩
  have hl' := hl.below hb
  have hc' := hc.trans (hb.mono hc.size)
  clear hc hb hl
  have hl := hl'
  clear hl'
  have hc := hc'
  clear hc'
  go_wp2_with fail
  refine (c_dab w11).mono ?_
  rintro e w12 ⟨rfl, hb⟩
  have hl' := hl.below hb
  have hp1' := hp1.below hb
  have hc' := hc.trans (hb.mono hc.size)
  clear hc hb hl hp1
  have hl := hl'
  clear hl'
  have hp1 := hp1'
  clear hp1'
  have hc := hc'
  clear hc'
  go_wp2_with fail
  have hq1 := n_dab w12 rfl
  have hl' := hl.below (below_box (w := w12) (.cells #[.int .i64 3, .string ⟨#[]⟩, .string ⟨#[]⟩, .string ⟨#[97, 47]⟩, .string ⟨#[98, 47]⟩, .string ⟨#[]⟩, .string ⟨#[]⟩, .int .i64 0] 40))
  have hp1' := hp1.below (below_box (w := w12) (.cells #[.int .i64 3, .string ⟨#[]⟩, .string ⟨#[]⟩, .string ⟨#[97, 47]⟩, .string ⟨#[98, 47]⟩, .string ⟨#[]⟩, .string ⟨#[]⟩, .int .i64 0] 40))
  have hc' := hc.trans ((below_box (w := w12) (.cells #[.int .i64 3, .string ⟨#[]⟩, .string ⟨#[]⟩, .string ⟨#[97, 47]⟩, .string ⟨#[98, 47]⟩, .string ⟨#[]⟩, .string ⟨#[]⟩, .int .i64 0] 40)).mono hc.size)
  clear hc hl hp1
  have hl := hl'
  clear hl'
  have hp1 := hp1'
  clear hp1'
  have hc := hc'
  clear hc'
  generalize w12.alloc (.cells #[.int .i64 3, .string ⟨#[]⟩, .string ⟨#[]⟩, .string ⟨#[97, 47]⟩, .string ⟨#[98, 47]⟩, .string ⟨#[]⟩, .string ⟨#[]⟩, .int .i64 0] 40) = x13 at *
  generalize w12.heap.size = b_hq1 at *
  refine (samemsgs_w _ _ _ _ x13 hp1 hq1).mono ?_
  rintro e w14 ⟨rfl, nd, hw⟩
  have hb : Below x13.heap.size x13 w14 := by rw [hw]; exact below_drewN _ _
  clear hw
  have hl' := hl.below hb
  have hp1' := hp1.below hb
  have hq1' := hq1.below hb
  have hc' := hc.trans (hb.mono hc.size)
  clear hc hb hl hp1 hq1
  have hl := hl'
  clear hl'
  have hp1 := hp1'
  clear hp1'
  have hq1 := hq1'
  clear hq1'
  have hc := hc'
  clear hc'
  rw [decide_eq_true rfl]
  clear hp1
  clear hq1
  go_wp2_with fail
  refine (c_pb w14).mono ?_
  rintro e w15 ⟨rfl, hb⟩
  have hl' := hl.below hb
  have hc' := hc.trans (hb.mono hc.size)
  clear hc hb hl
  have hl := hl'
  clear hl'
  have hc := hc'
  clear hc'
  go_wp2_with fail
  refine (t_p w15).mono ?_
  rintro e w16 ⟨p2, c2, rfl, hb⟩
  have hl' := hl.below hb
  have hc' := hc.trans (hb.mono hc.size)
  clear hc hb hl
  have hl := hl'
  clear hl'
  have hc := hc'
  clear hc'
  go_wp2_with fail
  refine (c_pax w16).mono ?_
  rintro e w17 ⟨rfl, hb⟩
  have hl' := hl.below hb
  have hc' := hc.trans (hb.mono hc.size)
  clear hc hb hl
  have hl := hl'
  clear hl'
  have hc := hc'
  clear hc'
  go_wp2_with fail
  refine (c_dac w17).mono ?_
  rintro e w18 ⟨rfl, hb⟩
  have hl' := hl.below hb
  have hc' := hc.trans (hb.mono hc.size)
  clear hc hb hl
  have hl := hl'
  clear hl'
  have hc := hc'
  clear hc'
  go_wp2_with fail
  refine (c_pay w18).mono ?_
  rintro e w19 ⟨rfl, hb⟩
  have hl' := hl.below hb
  have hc' := hc.trans (hb.mono hc.size)
  clear hc hb hl
  have hl := hl'
  clear hl'
  have hc := hc'
  clear hc'
  go_wp2_with fail
  have hl1 := n_pax_dac_pay w19 rfl
  have hl' := hl.below (below_box (w := w19) (.cells #[.int .i64 1, .string ⟨#[97, 47, 120]⟩, .string ⟨#[]⟩, .string ⟨#[]⟩, .string ⟨#[]⟩, .string ⟨#[]⟩, .string ⟨#[]⟩, .int .i64 0, .int .i64 3, .string ⟨#[]⟩, .string ⟨#[]⟩, .string ⟨#[97, 47]⟩, .string ⟨#[99, 47]⟩, .string ⟨#[]⟩, .string ⟨#[]⟩, .int .i64 0, .int .i64 1, .string ⟨#[97, 47, 121]⟩, .string ⟨#[]⟩, .string ⟨#[]⟩, .string ⟨#[]⟩, .string ⟨#[]⟩, .string ⟨#[]⟩, .int .i64 0] 40))
  have hc' := hc.trans ((below_box (w := w19) (.cells #[.int .i64 1, .string ⟨#[97, 47, 120]⟩, .string ⟨#[]⟩, .string ⟨#[]⟩, .string ⟨#[]⟩, .string ⟨#[]⟩, .string ⟨#[]⟩, .int .i64 0, .int .i64 3, .string ⟨#[]⟩, .string ⟨#[]⟩, .string ⟨#[97, 47]⟩, .string ⟨#[99, 47]⟩, .string ⟨#[]⟩, .string ⟨#[]⟩, .int .i64 0, .int .i64 1, .string ⟨#[97, 47, 121]⟩, .string ⟨#[]⟩, .string ⟨#[]⟩, .string ⟨#[]⟩, .string ⟨#[]⟩, .string ⟨#[]⟩, .int .i64 0] 40)).mono hc.size)
  clear hc hl
  have hl := hl'
  clear hl'
  have hc := hc'
  clear hc'
  generalize w19.alloc (.cells #[.int .i64 1, .string ⟨#[97, 47, 120]⟩, .string ⟨#[]⟩, .string ⟨#[]⟩, .string ⟨#[]⟩, .string ⟨#[]⟩, .string ⟨#[]⟩, .int .i64 0, .int .i64 3, .string ⟨#[]⟩, .string ⟨#[]⟩, .string ⟨#[97, 47]⟩, .string ⟨#[99, 47]⟩, .string ⟨#[]⟩, .string ⟨#[]⟩, .int .i64 0, .int .i64 1, .string ⟨#[97, 47, 121]⟩, .string ⟨#[]⟩, .string ⟨#[]⟩, .string ⟨#[]⟩, .string ⟨#[]⟩, .string ⟨#[]⟩, .int .i64 0] 40) = x20 at *
  generalize w19.heap.size = b_hl1 at *
  refine (r_a _ _ x20 hl1 hl).mono ?_
  rintro e w21 ⟨p3, q3, c3, d3, rfl, hg1, hs1, hb⟩
  have hl' := hl.below hb
  have hl1' := hl1.below hb
  have hc' := hc.trans (hb.mono hc.size)
  clear hc hb hl hl1
  have hl := hl'
  clear hl'
  have hl1 := hl1'
  clear hl1'
  have hc := hc'
  clear hc'
  clear hl1
  go_wp2_with fail
  refine (c_pax w21).mono ?_
  rintro e w22 ⟨rfl, hb⟩
  have hl' := hl.below hb
  have hg1' := hg1.below hb
  have hs1' := hs1.below hb
  have hc' := hc.trans (hb.mono hc.size)
  clear hc hb hl hg1 hs1
  have hl := hl'
  clear hl'
  have hg1 := hg1'
  clear hg1'
  have hs1 := hs1'
  clear hs1'
  have hc := hc'
  clear hc'
  go_wp2_with fail
  refine (c_dab w22).mono ?_
  rintro e w23 ⟨rfl, hb⟩
  have hl' := hl.below hb
  have hg1' := hg1.below hb
  have hs1' := hs1.below hb
  have hc' := hc.trans (hb.mono hc.size)
  clear hc hb hl hg1 hs1
  have hl := hl'
  clear hl'
  have hg1 := hg1'
  clear hg1'
  have hs1 := hs1'
  clear hs1'
  have hc := hc'
  clear hc'
  go_wp2_with fail
  refine (c_pay w23).mono ?_
  rintro e w24 ⟨rfl, hb⟩
  have hl' := hl.below hb
  have hg1' := hg1.below hb
  have hs1' := hs1.below hb
  have hc' := hc.trans (hb.mono hc.size)
  clear hc hb hl hg1 hs1
  have hl := hl'
  clear hl'
  have hg1 := hg1'
  clear hg1'
  have hs1 := hs1'
  clear hs1'
  have hc := hc'
  clear hc'
  go_wp2_with fail
  -- two lists
  have hl2 := n_pax_dab_pay w24 rfl
  have hl' := hl.below (below_box (w := w24) (.cells #[.int .i64 1, .string ⟨#[97, 47, 120]⟩, .string ⟨#[]⟩, .string ⟨#[]⟩, .string ⟨#[]⟩, .string ⟨#[]⟩, .string ⟨#[]⟩, .int .i64 0, .int .i64 3, .string ⟨#[]⟩, .string ⟨#[]⟩, .string ⟨#[97, 47]⟩, .string ⟨#[98, 47]⟩, .string ⟨#[]⟩, .string ⟨#[]⟩, .int .i64 0, .int .i64 1, .string ⟨#[97, 47, 121]⟩, .string ⟨#[]⟩, .string ⟨#[]⟩, .string ⟨#[]⟩, .string ⟨#[]⟩, .string ⟨#[]⟩, .int .i64 0] 40))
  have hg1' := hg1.below (below_box (w := w24) (.cells #[.int .i64 1, .string ⟨#[97, 47, 120]⟩, .string ⟨#[]⟩, .string ⟨#[]⟩, .string ⟨#[]⟩, .string ⟨#[]⟩, .string ⟨#[]⟩, .int .i64 0, .int .i64 3, .string ⟨#[]⟩, .string ⟨#[]⟩, .string ⟨#[97, 47]⟩, .string ⟨#[98, 47]⟩, .string ⟨#[]⟩, .string ⟨#[]⟩, .int .i64 0, .int .i64 1, .string ⟨#[97, 47, 121]⟩, .string ⟨#[]⟩, .string ⟨#[]⟩, .string ⟨#[]⟩, .string ⟨#[]⟩, .string ⟨#[]⟩, .int .i64 0] 40))
  have hs1' := hs1.below (below_box (w := w24) (.cells #[.int .i64 1, .string ⟨#[97, 47, 120]⟩, .string ⟨#[]⟩, .string ⟨#[]⟩, .string ⟨#[]⟩, .string ⟨#[]⟩, .string ⟨#[]⟩, .int .i64 0, .int .i64 3, .string ⟨#[]⟩, .string ⟨#[]⟩, .string ⟨#[97, 47]⟩, .string ⟨#[98, 47]⟩, .string ⟨#[]⟩, .string ⟨#[]⟩, .int .i64 0, .int .i64 1, .string ⟨#[97, 47, 121]⟩, .string ⟨#[]⟩, .string ⟨#[]⟩, .string ⟨#[]⟩, .string ⟨#[]⟩, .string ⟨#[]⟩, .int .i64 0] 40))
  have hc' := hc.trans ((below_box (w := w24) (.cells #[.int .i64 1, .string ⟨#[97, 47, 120]⟩, .string ⟨#[]⟩, .string ⟨#[]⟩, .string ⟨#[]⟩, .string ⟨#[]⟩, .string ⟨#[]⟩, .int .i64 0, .int .i64 3, .string ⟨#[]⟩, .string ⟨#[]⟩, .string ⟨#[97, 47]⟩, .string ⟨#[98, 47]⟩, .string ⟨#[]⟩, .string ⟨#[]⟩, .int .i64 0, .int .i64 1, .string ⟨#[97, 47, 121]⟩, .string ⟨#[]⟩, .string ⟨#[]⟩, .string ⟨#[]⟩, .string ⟨#[]⟩, .string ⟨#[]⟩, .int .i64 0] 40)).mono hc.size)
  clear hc hl hg1 hs1
  have hl := hl'
  clear hl'
  have hg1 := hg1'
  clear hg1'
  have hs1 := hs1'
  clear hs1'
  have hc := hc'
  clear hc'
  generalize w24.alloc (.cells #[.int .i64 1, .string ⟨#[97, 47, 120]⟩, .string ⟨#[]⟩, .string ⟨#[]⟩, .string ⟨#[]⟩, .string ⟨#[]⟩, .string ⟨#[]⟩, .int .i64 0, .int .i64 3, .string ⟨#[]⟩, .string ⟨#[]⟩, .string ⟨#[97, 47]⟩, .string ⟨#[98, 47]⟩, .string ⟨#[]⟩, .string ⟨#[]⟩, .int .i64 0, .int .i64 1, .string ⟨#[97, 47, 121]⟩, .string ⟨#[]⟩, .string ⟨#[]⟩, .string ⟨#[]⟩, .string ⟨#[]⟩, .string ⟨#[]⟩, .int .i64 0] 40) = x25 at *
  generalize w24.heap.size = b_hl2 at *
  refine (c_dbc x25).mono ?_
  rintro e w26 ⟨rfl, hb⟩
  have hl' := hl.below hb
  have hg1' := hg1.below hb
  have hs1' := hs1.below hb
  have hl2' := hl2.below hb
  have hc' := hc.trans (hb.mono hc.size)
  clear hc hb hl hg1 hs1 hl2
  have hl := hl'
  clear hl'
  have hg1 := hg1'
  clear hg1'
  have hs1 := hs1'
  clear hs1'
  have hl2 := hl2'
  clear hl2'
  have hc := hc'
  clear hc'
  go_wp2_with fail
  have hl3 := n_dbc w26 rfl
  have hl' := hl.below (below_box (w := w26) (.cells #[.int .i64 3, .string ⟨#[]⟩, .string ⟨#[]⟩, .string ⟨#[98, 47]⟩, .string ⟨#[99, 47]⟩, .string ⟨#[]⟩, .string ⟨#[]⟩, .int .i64 0] 40))
  have hg1' := hg1.below (below_box (w := w26) (.cells #[.int .i64 3, .string ⟨#[]⟩, .string ⟨#[]⟩, .string ⟨#[98, 47]⟩, .string ⟨#[99, 47]⟩, .string ⟨#[]⟩, .string ⟨#[]⟩, .int .i64 0] 40))
  have hs1' := hs1.below (below_box (w := w26) (.cells #[.int .i64 3, .string ⟨#[]⟩, .string ⟨#[]⟩, .string ⟨#[98, 47]⟩, .string ⟨#[99, 47]⟩, .string ⟨#[]⟩, .string ⟨#[]⟩, .int .i64 0] 40))
  have hl2' := hl2.below (below_box (w := w26) (.cells #[.int .i64 3, .string ⟨#[]⟩, .string ⟨#[]⟩, .string ⟨#[98, 47]⟩, .string ⟨#[99, 47]⟩, .string ⟨#[]⟩, .string ⟨#[]⟩, .int .i64 0] 40))
  have hc' := hc.trans ((below_box (w := w26) (.cells #[.int .i64 3, .string ⟨#[]⟩, .string ⟨#[]⟩, .string ⟨#[98, 47]⟩, .string ⟨#[99, 47]⟩, .string ⟨#[]⟩, .string ⟨#[]⟩, .int .i64 0] 40)).mono hc.size)
  clear hc hl hg1 hs1 hl2
  have hl := hl'
  clear hl'
  have hg1 := hg1'
  clear hg1'
  have hs1 := hs1'
  clear hs1'
  have hl2 := hl2'
  clear hl2'
  have hc := hc'
  clear hc'
  generalize w26.alloc (.cells #[.int .i64 3, .string ⟨#[]⟩, .string ⟨#[]⟩, .string ⟨#[98, 47]⟩, .string ⟨#[99, 47]⟩, .string ⟨#[]⟩, .string ⟨#[]⟩, .int .i64 0] 40) = x27 at *
  generalize w26.heap.size = b_hl3 at *
  refine (lsame_w _ _ _ _ _ _ _ _ _ _ x27 hg1 hs1 hl2 hl3 _ _ _ _ _ _ rfl rfl).mono ?_
  rintro e w28 ⟨rfl, hw⟩
  have hb := hw.below (Nat.le_refl x27.heap.size)
  clear hw hg1 hs1 hl2 hl3
  have hl' := hl.below hb
  have hc' := hc.trans (hb.mono hc.size)
  clear hc hb hl
  have hl := hl'
  clear hl'
  have hc := hc'
  clear hc'
  rw [decide_eq_true rfl, decide_eq_true rfl]
  simp only [Bool.and_self]
  go_wp2_with fail
  refine (c_mac w28).mono ?_
  rintro e w29 ⟨rfl, hb⟩
  have hl' := hl.below hb
  have hc' := hc.trans (hb.mono hc.size)
  clear hc hb hl
  have hl := hl'
  clear hl'
  have hc := hc'
  clear hc'
  go_wp2_with fail
  refine (c_pax w29).mono ?_
  rintro e w30 ⟨rfl, hb⟩
  have hl' := hl.below hb
  have hc' := hc.trans (hb.mono hc.size)
  clear hc hb hl
  have hl := hl'
  clear hl'
  have hc := hc'
  clear hc'
  go_wp2_with fail
  refine (c_paa w30).mono ?_
  rintro e w31 ⟨rfl, hb⟩
  have hl' := hl.below hb
  have hc' := hc.trans (hb.mono hc.size)
  clear hc hb hl
  have hl := hl'
  clear hl'
  have hc := hc'
  clear hc'
  go_wp2_with fail
  have hbuf := n_mac_pax_paa w31 rfl
  have hl' := hl.below (below_box (w := w31) (.cells #[.int .i64 4, .string ⟨#[]⟩, .string ⟨#[]⟩, .string ⟨#[]⟩, .string ⟨#[]⟩, .string ⟨#[97, 47]⟩, .string ⟨#[99, 47]⟩, .int .i64 0, .int .i64 1, .string ⟨#[97, 47, 120]⟩, .string ⟨#[]⟩, .string ⟨#[]⟩, .string ⟨#[]⟩, .string ⟨#[]⟩, .string ⟨#[]⟩, .int .i64 0, .int .i64 1, .string ⟨#[97, 97]⟩, .string ⟨#[]⟩, .string ⟨#[]⟩, .string ⟨#[]⟩, .string ⟨#[]⟩, .string ⟨#[]⟩, .int .i64 0] 40))
  have hc' := hc.trans ((below_box (w := w31) (.cells #[.int .i64 4, .string ⟨#[]⟩, .string ⟨#[]⟩, .string ⟨#[]⟩, .string ⟨#[]⟩, .string ⟨#[97, 47]⟩, .string ⟨#[99, 47]⟩, .int .i64 0, .int .i64 1, .string ⟨#[97, 47, 120]⟩, .string ⟨#[]⟩, .string ⟨#[]⟩, .string ⟨#[]⟩, .string ⟨#[]⟩, .string ⟨#[]⟩, .int .i64 0, .int .i64 1, .string ⟨#[97, 97]⟩, .string ⟨#[]⟩, .string ⟨#[]⟩, .string ⟨#[]⟩, .string ⟨#[]⟩, .string ⟨#[]⟩, .int .i64 0] 40)).mono hc.size)
  clear hc hl
  have hl := hl'
  clear hl'
  have hc := hc'
  clear hc'
  generalize w31.alloc (.cells #[.int .i64 4, .string ⟨#[]⟩, .string ⟨#[]⟩, .string ⟨#[]⟩, .string ⟨#[]⟩, .string ⟨#[97, 47]⟩, .string ⟨#[99, 47]⟩, .int .i64 0, .int .i64 1, .string ⟨#[97, 47, 120]⟩, .string ⟨#[]⟩, .string ⟨#[]⟩, .string ⟨#[]⟩, .string ⟨#[]⟩, .string ⟨#[]⟩, .int .i64 0, .int .i64 1, .string ⟨#[97, 97]⟩, .string ⟨#[]⟩, .string ⟨#[]⟩, .string ⟨#[]⟩, .string ⟨#[]⟩, .string ⟨#[]⟩, .int .i64 0] 40) = x32 at *
  generalize w31.heap.size = b_hbuf at *
  have HBUF := Lib.hid hbuf
  have HL := Lib.hid hl
  have HC := Lib.hid hc
  have HS0 : Hid (Below x32.heap.size x32 x32) := Lib.hid (Below.refl _ _)
  have hRA : Hid (∀ wx, Below x32.heap.size x32 wx → Calls Tryz.prog 18 #[.slice (some ⟨b_hbuf, 0, none⟩) 3 3, .slice (some ⟨w.heap.size, 0, none⟩) 1 1, .int .i64 0] wx fun e w' => ∃ p q c d, e = .returned (.agg #[.slice p 1 c, .slice q 2 d, .slice none 0 0]) ∧ IsMsgs w' (.slice p 1 c) [(⟨1, [97, 97], [], [], [], [], [], 0⟩ : Ms)] ∧ IsMsgs w' (.slice q 2 d) [(⟨4, [], [], [], [], [97, 47], [99, 47], 0⟩ : Ms), (⟨1, [97, 47, 120], [], [], [], [], [], 0⟩ : Ms)] ∧ Below x32.heap.size x32 w') := Lib.hid (fun wx hx => (r_b _ _ wx (HBUF.out.below hx) (HL.out.below hx)).mono fun e w' ⟨p, q, c, d, h1, h2, h3, h4⟩ => ⟨p, q, c, d, h1, h2, h3, keepB hx h4⟩)
  have hRB : Hid (∀ wx, Below x32.heap.size x32 wx → Calls Tryz.prog 18 #[.slice (some ⟨b_hbuf, 0, none⟩) 3 3, .slice (some ⟨w.heap.size, 0, none⟩) 1 1, .int .i64 1] wx fun e w' => ∃ p q c d, e = .returned (.agg #[.slice p 0 c, .slice q 3 d, .slice none 0 0]) ∧ IsMsgs w' (.slice p 0 c) [] ∧ IsMsgs w' (.slice q 3 d) [(⟨4, [], [], [], [], [97, 47], [99, 47], 0⟩ : Ms), (⟨1, [97, 47, 120], [], [], [], [], [], 0⟩ : Ms), (⟨1, [97, 97], [], [], [], [], [], 0⟩ : Ms)] ∧ Below x32.heap.size x32 w') := Lib.hid (fun wx hx => (r_c _ _ wx (HBUF.out.below hx) (HL.out.below hx)).mono fun e w' ⟨p, q, c, d, h1, h2, h3, h4⟩ => ⟨p, q, c, d, h1, h2, h3, keepB hx h4⟩)
  have hSA : Hid (∀ wx v1 v2, Below x32.heap.size x32 wx → IsMsgs wx v1 [(⟨1, [97, 97], [], [], [], [], [], 0⟩ : Ms)] → IsMsgs wx v2 [(⟨4, [], [], [], [], [97, 47], [99, 47], 0⟩ : Ms), (⟨1, [97, 47, 120], [], [], [], [], [], 0⟩ : Ms)] → Calls Tryz.prog 17 #[.agg #[v1, v2, .slice none 0 0], .agg #[.slice (some ⟨b_hbuf, 16, none⟩) 1 1, .slice (some ⟨b_hbuf, 0, none⟩) 2 3, .slice none 0 0]] wx fun e w' => e = .returned (.bool true) ∧ Below x32.heap.size x32 w') := Lib.hid (fun wx v1 v2 hx h1 h2 => (lsame_w v1 v2 _ _ _ _ _ _ _ _ wx h1 h2 (msgs_tail (HBUF.out.below hx) 2 (by decide)) (msgs_front (HBUF.out.below hx) 2 (by decide)) none none 0 0 0 0 rfl rfl).mono fun e w' ⟨a, b⟩ => ⟨a.trans (by refine congrArg _ (congrArg _ ?_); rw [Bool.and_eq_true, decide_eq_true_iff, decide_eq_true_iff]; exact ⟨rfl, rfl⟩), hx.trans (b.below hx.size)⟩)
  have hSB : Hid (∀ wx v1 v2, Below x32.heap.size x32 wx → IsMsgs wx v1 [] → IsMsgs wx v2 [(⟨4, [], [], [], [], [97, 47], [99, 47], 0⟩ : Ms), (⟨1, [97, 47, 120], [], [], [], [], [], 0⟩ : Ms), (⟨1, [97, 97], [], [], [], [], [], 0⟩ : Ms)] → Calls Tryz.prog 17 #[.agg #[v1, v2, .slice none 0 0], .agg #[.slice none 0 0, .slice (some ⟨b_hbuf, 0, none⟩) 3 3, .slice none 0 0]] wx fun e w' => e = .returned (.bool true) ∧ Below x32.heap.size x32 w') := Lib.hid (fun wx v1 v2 hx h1 h2 => (lsame_w v1 v2 _ _ _ _ _ _ _ _ wx h1 h2 (no_msgs wx) (HBUF.out.below hx) none none 0 0 0 0 rfl rfl).mono fun e w' ⟨a, b⟩ => ⟨a.trans (by refine congrArg _ (congrArg _ ?_); rw [Bool.and_eq_true, decide_eq_true_iff, decide_eq_true_iff]; exact ⟨rfl, rfl⟩), hx.trans (b.below hx.size)⟩)
  clear hbuf hl hc
  go_region_held3 (fun wx => Below x32.heap.size x32 wx)
    (repeat (first | with_reducible assumption | with_reducible exact HS0.out | with_reducible refine Below.drew ?_ | with_reducible refine keepA ?_ _))
    (first
      | (go_at_call_of 18 (Value.int IntKind.i64 0); (with_reducible refine (hRA.out _ (by repeat (first | with_reducible assumption | with_reducible exact HS0.out | with_reducible refine Below.drew ?_))).mono ?_); rintro e2 y2 ⟨p2, q2, c2, d2, rfl, g2, t2, hS2⟩)
      | (go_at_call_of 18 (Value.int IntKind.i64 1); (with_reducible refine (hRB.out _ (by repeat (first | with_reducible assumption | with_reducible exact HS0.out | with_reducible refine Below.drew ?_))).mono ?_); rintro e4 y4 ⟨p4, q4, c4, d4, rfl, g4, t4, hS4⟩)
      | (go_at_call_of 17 (Value.agg #[Value.slice (some ⟨b_hbuf, 16, none⟩) 1 1, Value.slice (some ⟨b_hbuf, 0, none⟩) 2 3, Value.slice none 0 0]); (with_reducible refine (hSA.out _ _ _ (by repeat (first | with_reducible assumption | with_reducible exact HS0.out | with_reducible refine Below.drew ?_)) (by first | with_reducible exact g2 | with_reducible exact g2.below (below_drewN _ 1)) (by first | with_reducible exact t2 | with_reducible exact t2.below (below_drewN _ 1))).mono ?_); rintro e3 y3 ⟨rfl, hS3⟩)
      | (go_at_call 17; (with_reducible refine (hSB.out _ _ _ (by repeat (first | with_reducible assumption | with_reducible exact HS0.out | with_reducible refine Below.drew ?_)) (by first | with_reducible exact g4 | with_reducible exact g4.below (below_drewN _ 1)) (by first | with_reducible exact t4 | with_reducible exact t4.below (below_drewN _ 1))).mono ?_); rintro e5 y5 ⟨rfl, hS5⟩)
      | fail "no arm")
  have HF : Hid (Below w.heap.size w y5) := Lib.hid (HC.out.trans (hS5.mono HC.out.size))
  clear g2 t2 hS2 hS3 g4 t4 hS4 hS5
  go_wp2
  go_ret
  exact ⟨by first | rfl | simp, HF.out⟩

end Go.Proofs.YtjncehkldhkobaaGreat
