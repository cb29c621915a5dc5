/-
  Walks of package route: what of a message fits a kid, and what it needs.
-/
import Derived.Test.YtjncehkldhkobaaGreatRV
namespace Go.Proofs.YtjncehkldhkobaaGreat
open Go.RowKit Go.Sort
set_option linter.unusedVariables false

def fitP (m : Ms) (s : Sp) : List Ms := if movesB m then (if liesB m s then [m] else []) else partR m s
def fitN (m : Ms) (s : Sp) : List Sp := if movesB m then touchS m else (partR m s).flatMap touchS
def FitOut (w : World) (m : Ms) (s : Sp) (e : Ending) (w' : World) : Prop :=
  ∃ v1 v2, e = .returned (.tuple #[v1, v2]) ∧ IsMsgs w' v1 (fitP m s) ∧ IsSpans w' v2 (fitN m s) ∧ (∀ j, v2.ownBlock = some j → w.heap.size ≤ j) ∧ Below w.heap.size w w'
theorem own_fresh {w : World} {B size n : Nat} {e : TypeId} {v : Value} {xs : List Value} (h : w.ownsRow B e size v n xs) : ∀ j, v.ownBlock = some j → B ≤ j := fun j hj => (h.lt j hj).1
theorem partR_one (m : Ms) (s : Sp) : (partR m s).length ≤ 1 := by unfold partR; split <;> simp
theorem meet_short {a b : Sp} {M : Nat} (hM : 1 ≤ M) (ha : a.1.length ≤ M ∧ a.2.length ≤ M) (hb : b.1.length ≤ M ∧ b.2.length ≤ M) : (meetS a b).1.length ≤ M ∧ (meetS a b).2.length ≤ M := by
  have h1 : (if ltP (keyP a.1) (keyP b.1) then b.1 else a.1).length ≤ M := by split; exact hb.1; exact ha.1
  have h2 : (if ltP (hiP b.2) (hiP a.2) then b.2 else a.2).length ≤ M := by split; exact hb.2; exact ha.2
  unfold meetS
  dsimp only
  generalize (if ltP (keyP a.1) (keyP b.1) = true then b.1 else a.1) = lo at *
  generalize (if ltP (hiP b.2) (hiP a.2) = true then b.2 else a.2) = hi at *
  cases emptyB (lo, hi)
  · exact ⟨h1, h2⟩
  · exact ⟨hM, hM⟩
def SizeP (s : Sp) : Prop := s.1.length ≤ 1000000000 ∧ s.2.length ≤ 1000000000
theorem only_size {m : Ms} {s : Sp} (hz : SizeM m) (hs : SizeP s) : SizeM (onlyS m s) := by
  unfold onlyS
  split
  · have h := meet_short (by decide) (show (m.lo, m.hi).1.length ≤ 1000000000 ∧ (m.lo, m.hi).2.length ≤ 1000000000 from ⟨hz.2.2.1, hz.2.2.2.1⟩) hs
    exact ⟨hz.1, hz.2.1, h.1, h.2, hz.2.2.2.2.1, hz.2.2.2.2.2⟩
  · exact hz
theorem partR_size {m : Ms} {s : Sp} (hz : SizeM m) (hs : SizeP s) : ∀ p ∈ partR m s, SizeM p := by
  unfold partR
  intro p hp
  split at hp
  · obtain rfl := List.mem_singleton.1 hp; exact only_size hz hs
  · cases hp

set_option maxRecDepth 100000 in
set_option maxHeartbeats 4000000 in
theorem fit_w (m : Ms) (s : Sp) (w : World) (hz : SizeM m) (hs : SizeP s) :
    Calls Tryz.prog 74 #[msgV m, strS s] w (FitOut w m s) := by
  have mixed := mixedA
  have hmv := fun wx => moves_w m wx
  have hpt := fun wx => part_w m s wx hz
  have hli := fun wx => liesIn_w m s wx hz
  have htp := fun v wx (h : IsMsgs wx v (partR m s)) => touched_w v (partR m s) wx h (partR_size hz hs) (Nat.le_trans (partR_one m s) (by decide))
  have htm := fun (W : World) (n : Nat) (T : TypeId) (hn : n = W.heap.size) => touched_w (.slice (some ⟨n, 0, none⟩) 1 1) [m] (W.alloc (.cells (encM m) T)) (one_msgs m T hn) (by intro x hx; obtain rfl := List.mem_singleton.1 hx; exact hz) (by simp)
  have e1 : [m].flatMap touchS = touchS m := by simp
  rw [e1] at htm
  have hom := fun (W : World) (n : Nat) (T : TypeId) (hn : n = W.heap.size) => one_msgs m T hn
  obtain ⟨W0, hW0⟩ : ∃ W0, W0 = (w.alloc (.cells (encM m) 40)).alloc (.cells #[.string (Str s.1), .string (Str s.2)] 38) := ⟨_, rfl⟩
  have hg0 : Below w.heap.size w W0 := by rw [hW0]; exact ((Below.refl _ _).alloc (Nat.le_refl _) _).alloc (by simp) _
  have b1 : Blk W0 w.heap.size 40 (encM m) := by rw [hW0]; exact (Blk.new _ _ _).alloc _
  have b2 : Blk W0 (w.heap.size + 1) 38 #[.string (Str s.1), .string (Str s.2)] := by rw [hW0]; exact Blk.new' _ _ _ (by simp)
  have hF : ∀ e w', FitOut w m s e w' = ∃ v1 v2, e = .returned (.tuple #[v1, v2]) ∧ IsMsgs w' v1 (if movesB m then (if liesB m s then [m] else []) else partR m s) ∧ IsSpans w' v2 (if movesB m then touchS m else (partR m s).flatMap touchS) ∧ (∀ j, v2.ownBlock = some j → w.heap.size ≤ j) ∧ Below w.heap.size w w' := fun _ _ => rfl
  have hF2 : FitOut w m s = fun e w' => ∃ v1 v2, e = .returned (.tuple #[v1, v2]) ∧ IsMsgs w' v1 (if movesB m then (if liesB m s then [m] else []) else partR m s) ∧ IsSpans w' v2 (if movesB m then touchS m else (partR m s).flatMap touchS) ∧ (∀ j, v2.ownBlock = some j → w.heap.size ≤ j) ∧ Below w.heap.size w w' := rfl
  rw [hF2]
  clear hF hF2 e1
  generalize (partR m s).flatMap touchS = PN at *
  generalize touchS m = TN at *
  generalize partR m s = P at *
  generalize liesB m s = lb at *
  generalize movesB m = mb at *
  have HMV := Lib.hid hmv
  have HPT := Lib.hid hpt
  have HLI := Lib.hid hli
  have HTP := Lib.hid htp
  have HTM := Lib.hid htm
  have HOM := Lib.hid hom
  have HG0 := Lib.hid hg0
  have HB1 := Lib.hid b1
  have HB2 := Lib.hid b2
  have HW0 := Lib.hid hW0
  clear hmv hpt hli htp htm hom hg0 b1 b2 hW0 hz hs
  simp only [strS] at HLI HPT ⊢
  cases mb with
  | false =>
    simp only [Bool.false_eq_true, ↓reduceIte]
    go_enter Tryz.func74, Tryz.ntmps74
    go_wp2_with (first
      | (go_at_call 50; rw [← HW0.out]; (refine (HMV.out _).mono ?_); rintro e w2 ⟨rfl, hg2⟩; have HG2 : Hid (Below W0.heap.size W0 w2) := Lib.hid (hg2.below (Nat.le_refl _)); clear hg2; have hb3 := HB1.out.below HG2.out HB1.out.lt; have hb4 := HB2.out.below HG2.out HB2.out.lt; have d0 := hb3.c0 0 _ rfl; have d1 := hb3.c0 1 _ rfl; have d2 := hb3.c0 2 _ rfl; have d3 := hb3.c0 3 _ rfl; have d4 := hb3.c0 4 _ rfl; have d5 := hb3.c0 5 _ rfl; have d6 := hb3.c0 6 _ rfl; have d7 := hb3.c0 7 _ rfl; have e0 := hb4.c0 0 _ rfl; have e1 := hb4.c0 1 _ rfl; clear hb3 hb4)
      | (go_at_call 23; (refine (HPT.out _).mono ?_); rintro e w3 ⟨v3, rfl, hp3, hg3⟩; have HP3 := Lib.hid hp3; have HG3 : Hid (Below W0.heap.size W0 w3) := Lib.hid (HG2.out.trans (hg3.below HG2.out.size)); clear hp3 hg3)
      | (go_at_call 81; (refine (HTP.out _ _ HP3.out).mono ?_); rintro e w4 ⟨v4, rfl, ho4, hb4⟩; have HO4 := Lib.hid ho4; have HB4 := Lib.hid hb4; clear ho4 hb4))
    go_ret2
    exact ⟨_, _, rfl, HP3.out.below HB4.out, IsSpans.owned HO4.out, fun j hj => Nat.le_trans (Nat.le_trans HG0.out.size HG3.out.size) (own_fresh HO4.out j hj), (HG0.out.trans (HG3.out.mono HG0.out.size)).trans (HB4.out.mono (Nat.le_trans HG0.out.size HG3.out.size))⟩
  | true =>
    simp only [↓reduceIte]
    cases lb with
    | false =>
      simp only [Bool.false_eq_true, ↓reduceIte]
      go_enter Tryz.func74, Tryz.ntmps74
      go_wp2_with (first
        | (go_at_call 50; rw [← HW0.out]; (refine (HMV.out _).mono ?_); rintro e w2 ⟨rfl, hg2⟩; have HG2 : Hid (Below W0.heap.size W0 w2) := Lib.hid (hg2.below (Nat.le_refl _)); clear hg2; have hb3 := HB1.out.below HG2.out HB1.out.lt; have hb4 := HB2.out.below HG2.out HB2.out.lt; have d0 := hb3.c0 0 _ rfl; have d1 := hb3.c0 1 _ rfl; have d2 := hb3.c0 2 _ rfl; have d3 := hb3.c0 3 _ rfl; have d4 := hb3.c0 4 _ rfl; have d5 := hb3.c0 5 _ rfl; have d6 := hb3.c0 6 _ rfl; have d7 := hb3.c0 7 _ rfl; have e0 := hb4.c0 0 _ rfl; have e1 := hb4.c0 1 _ rfl; clear hb3 hb4)
        | (go_at_call 51; (refine (HLI.out _).mono ?_); rintro e w3 ⟨rfl, hg3⟩; have HG3 : Hid (Below W0.heap.size W0 w3) := Lib.hid (keepB HG2.out hg3); clear hg3; have hb3 := HB1.out.below HG3.out HB1.out.lt; have f0 := hb3.c0 0 _ rfl; have f1 := hb3.c0 1 _ rfl; have f2 := hb3.c0 2 _ rfl; have f3 := hb3.c0 3 _ rfl; have f4 := hb3.c0 4 _ rfl; have f5 := hb3.c0 5 _ rfl; have f6 := hb3.c0 6 _ rfl; have f7 := hb3.c0 7 _ rfl; clear hb3)
        | (go_at_call 81; (with_reducible refine (HTM.out _ _ _ (by first | rfl | simp)).mono ?_); rintro e w4 ⟨v4, rfl, ho4, hb4⟩; have HO4 := Lib.hid ho4; have HB4 : Hid (Below w3.heap.size w3 w4) := Lib.hid ((below_box _).trans (hb4.mono (by simp))); clear ho4 hb4))
      go_ret2
      exact ⟨_, _, rfl, no_msgs _, IsSpans.owned HO4.out, fun j hj => Nat.le_trans (Nat.le_trans HG0.out.size HG3.out.size) (Nat.le_trans (by simp) (own_fresh HO4.out j hj)), (HG0.out.trans (HG3.out.mono HG0.out.size)).trans (HB4.out.mono (Nat.le_trans HG0.out.size HG3.out.size))⟩
    | true =>
      simp only [↓reduceIte]
      go_enter Tryz.func74, Tryz.ntmps74
      go_wp2_with (first
        | (go_at_call 50; rw [← HW0.out]; (refine (HMV.out _).mono ?_); rintro e w2 ⟨rfl, hg2⟩; have HG2 : Hid (Below W0.heap.size W0 w2) := Lib.hid (hg2.below (Nat.le_refl _)); clear hg2; have hb3 := HB1.out.below HG2.out HB1.out.lt; have hb4 := HB2.out.below HG2.out HB2.out.lt; have d0 := hb3.c0 0 _ rfl; have d1 := hb3.c0 1 _ rfl; have d2 := hb3.c0 2 _ rfl; have d3 := hb3.c0 3 _ rfl; have d4 := hb3.c0 4 _ rfl; have d5 := hb3.c0 5 _ rfl; have d6 := hb3.c0 6 _ rfl; have d7 := hb3.c0 7 _ rfl; have e0 := hb4.c0 0 _ rfl; have e1 := hb4.c0 1 _ rfl; clear hb3 hb4)
        | (go_at_call 51; (refine (HLI.out _).mono ?_); rintro e w3 ⟨rfl, hg3⟩; have HG3 : Hid (Below W0.heap.size W0 w3) := Lib.hid (keepB HG2.out hg3); clear hg3; have hb3 := HB1.out.below HG3.out HB1.out.lt; have f0 := hb3.c0 0 _ rfl; have f1 := hb3.c0 1 _ rfl; have f2 := hb3.c0 2 _ rfl; have f3 := hb3.c0 3 _ rfl; have f4 := hb3.c0 4 _ rfl; have f5 := hb3.c0 5 _ rfl; have f6 := hb3.c0 6 _ rfl; have f7 := hb3.c0 7 _ rfl; have z3 : w.heap.size < w3.heap.size := Nat.lt_of_lt_of_le HB1.out.lt HG3.out.size; clear hb3)
        | (go_at_call 81; (with_reducible refine (HTM.out _ _ _ (by first | rfl | simp)).mono ?_); rintro e w4 ⟨v4, rfl, ho4, hb4⟩; have HO4 := Lib.hid ho4; have HB4 := Lib.hid hb4; clear ho4 hb4))
      go_ret2
      have HM1 := HOM.out w3 w3.heap.size 40 rfl
      have HB5 : Below w3.heap.size w3 w4 := (keepA (keepA (Below.refl w3.heap.size w3) _) _).trans (HB4.out.mono (by simp; omega))
      exact ⟨_, _, rfl, (HM1.below (below_box _)).below HB4.out, IsSpans.owned HO4.out, fun j hj => Nat.le_trans (Nat.le_trans HG0.out.size HG3.out.size) (Nat.le_trans (by simp; omega) (own_fresh HO4.out j hj)), (HG0.out.trans (HG3.out.mono HG0.out.size)).trans (HB5.mono (Nat.le_trans HG0.out.size HG3.out.size))⟩

end Go.Proofs.YtjncehkldhkobaaGreat
