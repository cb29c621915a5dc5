/-
  Walks: the fixed examples of package settle.
-/
import Derived.Test.YtfpcaoacbjhkgaaGreatUM
namespace Go.Proofs.YtfpcaoacbjhkgaaGreat
open Go.RowKit Go.Sort
set_option linter.unusedVariables false

def mvM : Ms := ⟨4, [], [], [], [], [97, 47], [98, 47], 0⟩
def clM : Ms := ⟨5, [], [], [], [], [97, 47], [98, 47], 0⟩
def drM : Ms := ⟨3, [], [], [98, 47], [98, 48], [], [], 0⟩
def ptM : Ms := ⟨1, [98, 47, 120], [49], [], [], [], [], 3⟩
def drA : Ms := ⟨3, [], [], [97, 47], [97, 48], [], [], 0⟩
theorem newMU {n : Nat} (W : World) (L : List Ms) (hn : n = W.heap.size) (hl : L.length ≤ 1000) : IsMsgs (W.alloc (.cells (L.flatMap encML).toArray 40)) (.slice (some ⟨n, 0, none⟩) L.length L.length) L := by
  subst hn
  refine OwnM.msgs (B := W.heap.size) ⟨(flatM_len L), .inr ⟨W.heap.size, L.length, (L.flatMap encML).toArray, rfl, Nat.le_refl _, Blk.new _ _ _, Nat.le_refl _, by unfold maxLen; omega, by rw [List.size_toArray, flatM_len], List.take_of_length_le (by rw [flatM_len]; exact Nat.le_refl _)⟩⟩
theorem newPU {n : Nat} (W : World) (hn : n = W.heap.size) : IsPairs (W.alloc (.cells #[.string ⟨#[97, 47, 120]⟩, .string ⟨#[49]⟩, .int .i64 3] 71)) (.slice (some ⟨n, 0, none⟩) 1 1) [([97, 47, 120], [49], 3)] := by
  subst hn
  refine ⟨_, 1, rfl, Nat.le_refl _, by unfold maxLen; omega, fun x hx => ?_, fun _ => ⟨_, 0, rfl, by simp, fun i hi => ?_⟩⟩
  · rw [List.mem_singleton] at hx
    subst hx
    unfold maxLen
    simp
  · match i, hi with
    | 0, _ => simp [World.cell?_alloc_new, Str]
theorem newSU {n : Nat} (W : World) (hn : n = W.heap.size) : IsStrs (W.alloc (.cells #[.string ⟨#[98, 47]⟩] 9)) (.slice (some ⟨n, 0, none⟩) 1 1) [[98, 47]] := by
  subst hn
  exact one_strs rfl [98, 47]
theorem nilPU (w : World) : IsPairs w (.slice none 0 0) [] := ⟨none, 0, rfl, Nat.le_refl _, Nat.zero_le _, fun x hx => (by cases hx), fun h => absurd rfl h⟩
theorem nilSU (w : World) : IsStrs w (.slice none 0 0) [] := ⟨none, 0, rfl, Nat.le_refl _, Nat.zero_le _, fun h => absurd rfl h⟩
theorem new_clp {n : Nat} (W : World) (hn : n = W.heap.size) : IsMsgs (W.alloc (.cells #[.int .i64 5, .string ⟨#[]⟩, .string ⟨#[]⟩, .string ⟨#[]⟩, .string ⟨#[]⟩, .string ⟨#[97, 47]⟩, .string ⟨#[98, 47]⟩, .int .i64 0, .int .i64 1, .string ⟨#[98, 47, 120]⟩, .string ⟨#[49]⟩, .string ⟨#[]⟩, .string ⟨#[]⟩, .string ⟨#[]⟩, .string ⟨#[]⟩, .int .i64 3] 40)) (.slice (some ⟨n, 0, none⟩) 2 2) [clM, ptM] := newMU W [clM, ptM] hn (by decide)
theorem new_pt {n : Nat} (W : World) (hn : n = W.heap.size) : IsMsgs (W.alloc (.cells #[.int .i64 1, .string ⟨#[98, 47, 120]⟩, .string ⟨#[49]⟩, .string ⟨#[]⟩, .string ⟨#[]⟩, .string ⟨#[]⟩, .string ⟨#[]⟩, .int .i64 3] 40)) (.slice (some ⟨n, 0, none⟩) 1 1) [ptM] := newMU W [ptM] hn (by decide)
theorem new_ptm {n : Nat} (W : World) (hn : n = W.heap.size) : IsMsgs (W.alloc (.cells #[.int .i64 1, .string ⟨#[98, 47, 120]⟩, .string ⟨#[49]⟩, .string ⟨#[]⟩, .string ⟨#[]⟩, .string ⟨#[]⟩, .string ⟨#[]⟩, .int .i64 3, .int .i64 4, .string ⟨#[]⟩, .string ⟨#[]⟩, .string ⟨#[]⟩, .string ⟨#[]⟩, .string ⟨#[97, 47]⟩, .string ⟨#[98, 47]⟩, .int .i64 0] 40)) (.slice (some ⟨n, 0, none⟩) 2 2) [ptM, mvM] := newMU W [ptM, mvM] hn (by decide)
theorem new_dpa {n : Nat} (W : World) (hn : n = W.heap.size) : IsMsgs (W.alloc (.cells #[.int .i64 3, .string ⟨#[]⟩, .string ⟨#[]⟩, .string ⟨#[98, 47]⟩, .string ⟨#[98, 48]⟩, .string ⟨#[]⟩, .string ⟨#[]⟩, .int .i64 0, .int .i64 1, .string ⟨#[98, 47, 120]⟩, .string ⟨#[49]⟩, .string ⟨#[]⟩, .string ⟨#[]⟩, .string ⟨#[]⟩, .string ⟨#[]⟩, .int .i64 3, .int .i64 3, .string ⟨#[]⟩, .string ⟨#[]⟩, .string ⟨#[97, 47]⟩, .string ⟨#[97, 48]⟩, .string ⟨#[]⟩, .string ⟨#[]⟩, .int .i64 0] 40)) (.slice (some ⟨n, 0, none⟩) 3 3) [drM, ptM, drA] := newMU W [drM, ptM, drA] hn (by decide)
theorem new_dr {n : Nat} (W : World) (hn : n = W.heap.size) : IsMsgs (W.alloc (.cells #[.int .i64 3, .string ⟨#[]⟩, .string ⟨#[]⟩, .string ⟨#[98, 47]⟩, .string ⟨#[98, 48]⟩, .string ⟨#[]⟩, .string ⟨#[]⟩, .int .i64 0] 40)) (.slice (some ⟨n, 0, none⟩) 1 1) [drM] := newMU W [drM] hn (by decide)
theorem new_dp {n : Nat} (W : World) (hn : n = W.heap.size) : IsMsgs (W.alloc (.cells #[.int .i64 3, .string ⟨#[]⟩, .string ⟨#[]⟩, .string ⟨#[98, 47]⟩, .string ⟨#[98, 48]⟩, .string ⟨#[]⟩, .string ⟨#[]⟩, .int .i64 0, .int .i64 1, .string ⟨#[98, 47, 120]⟩, .string ⟨#[49]⟩, .string ⟨#[]⟩, .string ⟨#[]⟩, .string ⟨#[]⟩, .string ⟨#[]⟩, .int .i64 3] 40)) (.slice (some ⟨n, 0, none⟩) 2 2) [drM, ptM] := newMU W [drM, ptM] hn (by decide)
theorem sizeU : SizeM mvM ∧ SizeM clM ∧ SizeM ptM := by unfold SizeM; decide
theorem u_a (v : Value) (w : World) (h : IsPairs w v [([97, 47, 120], [49], 3)]) : Calls Tryz.prog 29 #[.agg #[.int .i64 4, .string ⟨#[]⟩, .string ⟨#[]⟩, .string ⟨#[]⟩, .string ⟨#[]⟩, .string ⟨#[97, 47]⟩, .string ⟨#[98, 47]⟩, .int .i64 0], v] w fun e w' => ∃ p c, e = .returned (.slice p 3 c) ∧ IsMsgs w' (.slice p 3 c) [drM, ptM, drA] ∧ Below w.heap.size w w' :=
  (slist_w mvM v _ w (by decide) sizeU.1 (by decide) h).mono fun e w' ⟨v', h1, h2, h3⟩ => by
    rw [show settledS mvM [([97, 47, 120], [49], 3)] = [drM, ptM, drA] from by decide +kernel] at h2
    have h4 := h2.msgs
    obtain ⟨p, c, rfl, -⟩ := id h4
    exact ⟨p, c, h1, h4, h3⟩
theorem u_b (w : World) : Calls Tryz.prog 29 #[.agg #[.int .i64 5, .string ⟨#[]⟩, .string ⟨#[]⟩, .string ⟨#[]⟩, .string ⟨#[]⟩, .string ⟨#[97, 47]⟩, .string ⟨#[98, 47]⟩, .int .i64 0], .slice none 0 0] w fun e w' => ∃ p c, e = .returned (.slice p 1 c) ∧ IsMsgs w' (.slice p 1 c) [drM] ∧ Below w.heap.size w w' :=
  (slist_w clM _ [] w (by decide) sizeU.2.1 (by decide) (nilPU w)).mono fun e w' ⟨v', h1, h2, h3⟩ => by
    rw [show settledS clM [] = [drM] from by decide +kernel] at h2
    have h4 := h2.msgs
    obtain ⟨p, c, rfl, -⟩ := id h4
    exact ⟨p, c, h1, h4, h3⟩
theorem u_c (v : Value) (w : World) (h : IsMsgs w v [clM, ptM]) : Calls Tryz.prog 32 #[v, .slice none 0 0] w fun e w' => ∃ p c, e = .returned (.tuple #[.slice p 2 c, .int .i64 0]) ∧ IsMsgs w' (.slice p 2 c) [drM, ptM] ∧ Below w.heap.size w w' :=
  (sturn_w v _ _ [] w h (by unfold SizeM; decide) (nilPU w) (by decide) (by decide) (fun m r _ _ x hx => by cases hx)).mono fun e w' ⟨v', h1, h2, h3⟩ => by
    rw [show turnR [clM, ptM] [] = [drM, ptM] from by decide +kernel] at h2
    rw [show turnB [clM, ptM] = true from by decide +kernel] at h1
    obtain ⟨p, c, rfl, -⟩ := id h2
    exact ⟨p, c, h1, h2, h3⟩
theorem u_f (w : World) : Calls Tryz.prog 32 #[.slice none 0 0, .slice none 0 0] w fun e w' => ∃ p c, e = .returned (.tuple #[.slice p 0 c, .int .i64 50]) ∧ Below w.heap.size w w' :=
  (sturn_w _ _ [] [] w (isMsgs_nilU w) (fun m hm => by cases hm) (nilPU w) (by decide) (by decide) (fun m r _ _ x hx => by cases hx)).mono fun e w' ⟨v', h1, h2, h3⟩ => by
    obtain ⟨p, c, rfl, -⟩ := id h2
    exact ⟨p, c, h1, h3⟩
theorem u_g (v : Value) (w : World) (h : IsMsgs w v [ptM]) : Calls Tryz.prog 32 #[v, .slice none 0 0] w fun e w' => ∃ p c, e = .returned (.tuple #[.slice p 0 c, .int .i64 50]) ∧ Below w.heap.size w w' :=
  (sturn_w v _ _ [] w h (by unfold SizeM; decide) (nilPU w) (by decide) (by decide) (fun m r _ _ x hx => by cases hx)).mono fun e w' ⟨v', h1, h2, h3⟩ => by
    rw [show turnR [ptM] [] = [] from by decide +kernel] at h2
    rw [show turnB [ptM] = false from by decide +kernel] at h1
    obtain ⟨p, c, rfl, -⟩ := id h2
    exact ⟨p, c, h1, h3⟩
theorem u_i (v vp : Value) (w : World) (h : IsMsgs w v [ptM, mvM]) (hp : IsStrs w vp [[98, 47]]) : Calls Tryz.prog 26 #[v, vp] w fun e w' => e = .returned (.tuple #[.int .i64 1, .bool true]) ∧ Below w.heap.size w w' :=
  (sfirst_w v vp _ _ w h hp ⟨by simp, fun q h => by (cases h), trivial⟩ (by unfold SizeM; decide) (by decide)).mono fun e w' ⟨h1, h3⟩ => by
    rw [show firstF [[98, 47]] [ptM, mvM] 0 = (1, true) from by decide +kernel] at h1
    exact ⟨h1, h3⟩
theorem u_n (v : Value) (w : World) (h : IsMsgs w v [ptM, mvM]) : Calls Tryz.prog 26 #[v, .slice none 0 0] w fun e w' => e = .returned (.tuple #[.int .i64 0, .bool false]) ∧ Below w.heap.size w w' :=
  (sfirst_w v _ _ [] w h (nilSU w) trivial (by unfold SizeM; decide) (by decide)).mono fun e w' ⟨h1, h3⟩ => by
    rw [show firstF [] [ptM, mvM] 0 = (0, false) from by decide +kernel] at h1
    exact ⟨h1, h3⟩
theorem u_s (v u : Value) (l : List Ms) (w : World) (h : IsMsgs w v l) (k : IsMsgs w u l) : Calls Tryz.prog 28 #[v, u] w fun e w' => e = .returned (.bool true) ∧ Below w.heap.size w w' :=
  (fsame_w v u l l w h k).mono fun e w' ⟨h1, n, h2⟩ => ⟨h1.trans (by rw [decide_eq_true rfl]), by rw [h2]; exact below_drewN _ _⟩

/-- The four messages of the examples, in boxes. -/
structure BxU (w wx : World) : Prop where
  a : Blk wx w.heap.size 40 #[.int .i64 4, .string ⟨#[]⟩, .string ⟨#[]⟩, .string ⟨#[]⟩, .string ⟨#[]⟩, .string ⟨#[97, 47]⟩, .string ⟨#[98, 47]⟩, .int .i64 0]
  b : Blk wx (w.heap.size + 1) 40 #[.int .i64 5, .string ⟨#[]⟩, .string ⟨#[]⟩, .string ⟨#[]⟩, .string ⟨#[]⟩, .string ⟨#[97, 47]⟩, .string ⟨#[98, 47]⟩, .int .i64 0]
  c : Blk wx (w.heap.size + 1 + 1) 40 #[.int .i64 3, .string ⟨#[]⟩, .string ⟨#[]⟩, .string ⟨#[98, 47]⟩, .string ⟨#[98, 48]⟩, .string ⟨#[]⟩, .string ⟨#[]⟩, .int .i64 0]
  d : Blk wx (w.heap.size + 1 + 1 + 1) 40 #[.int .i64 1, .string ⟨#[98, 47, 120]⟩, .string ⟨#[49]⟩, .string ⟨#[]⟩, .string ⟨#[]⟩, .string ⟨#[]⟩, .string ⟨#[]⟩, .int .i64 3]
  g : Below w.heap.size w wx
theorem BxU.below {w wx wy : World} (h : BxU w wx) (hb : Below wx.heap.size wx wy) : BxU w wy := ⟨h.a.below hb h.a.lt, h.b.below hb h.b.lt, h.c.below hb h.c.lt, h.d.below hb h.d.lt, h.g.trans (hb.mono h.g.size)⟩
theorem BxU.start (w : World) : BxU w ((((w.alloc (.cells #[.int .i64 4, .string ⟨#[]⟩, .string ⟨#[]⟩, .string ⟨#[]⟩, .string ⟨#[]⟩, .string ⟨#[97, 47]⟩, .string ⟨#[98, 47]⟩, .int .i64 0] 40)).alloc (.cells #[.int .i64 5, .string ⟨#[]⟩, .string ⟨#[]⟩, .string ⟨#[]⟩, .string ⟨#[]⟩, .string ⟨#[97, 47]⟩, .string ⟨#[98, 47]⟩, .int .i64 0] 40)).alloc (.cells #[.int .i64 3, .string ⟨#[]⟩, .string ⟨#[]⟩, .string ⟨#[98, 47]⟩, .string ⟨#[98, 48]⟩, .string ⟨#[]⟩, .string ⟨#[]⟩, .int .i64 0] 40)).alloc (.cells #[.int .i64 1, .string ⟨#[98, 47, 120]⟩, .string ⟨#[49]⟩, .string ⟨#[]⟩, .string ⟨#[]⟩, .string ⟨#[]⟩, .string ⟨#[]⟩, .int .i64 3] 40)) :=
  ⟨((Blk.new _ _ _).alloc _).alloc _ |>.alloc _, ((Blk.new' _ _ _ (by simp)).alloc _).alloc _, (Blk.new' _ _ _ (by simp)).alloc _, Blk.new' _ _ _ (by simp),
    ((((Below.refl _ w).alloc (Nat.le_refl _) _).alloc (by simp) _).alloc (by simp; omega) _).alloc (by simp; omega) _⟩
set_option maxRecDepth 100000 in
set_option maxHeartbeats 8000000 in
theorem usan_w (w : World) : Calls Tryz.prog 24 #[] w fun e w' => e = .returned (.bool true) ∧ Below w.heap.size w w' := by
  have mixed := mixedA
  obtain ⟨W0, hW0⟩ : ∃ W0, W0 = (((w.alloc (.cells #[.int .i64 4, .string ⟨#[]⟩, .string ⟨#[]⟩, .string ⟨#[]⟩, .string ⟨#[]⟩, .string ⟨#[97, 47]⟩, .string ⟨#[98, 47]⟩, .int .i64 0] 40)).alloc (.cells #[.int .i64 5, .string ⟨#[]⟩, .string ⟨#[]⟩, .string ⟨#[]⟩, .string ⟨#[]⟩, .string ⟨#[97, 47]⟩, .string ⟨#[98, 47]⟩, .int .i64 0] 40)).alloc (.cells #[.int .i64 3, .string ⟨#[]⟩, .string ⟨#[]⟩, .string ⟨#[98, 47]⟩, .string ⟨#[98, 48]⟩, .string ⟨#[]⟩, .string ⟨#[]⟩, .int .i64 0] 40)).alloc (.cells #[.int .i64 1, .string ⟨#[98, 47, 120]⟩, .string ⟨#[49]⟩, .string ⟨#[]⟩, .string ⟨#[]⟩, .string ⟨#[]⟩, .string ⟨#[]⟩, .int .i64 3] 40) := ⟨_, rfl⟩
  have HX := Lib.hid (show BxU w W0 by rw [hW0]; exact BxU.start w)
  have HW0 := Lib.hid hW0
  clear hW0
  go_enter Tryz.func24, Tryz.ntmps24
  go_wp2_with fail
  rw [← HW0.out]
  refine (u_a _ _ (newPU _ (by rw [HW0.out]; simp))).mono ?_
  rintro e w1 ⟨pa, ca, rfl, ha, hb⟩
  have hbb := (below_box _).trans (hb.mono (by simp))
  have HX1 := Lib.hid (HX.out.below hbb)
  have HA1 := Lib.hid ha
  clear HX HW0 hb hbb ha
  obtain ⟨cb0, cb1, cb2, cb3, cb4, cb5, cb6, cb7⟩ := HX1.out.b.eightCU
  have cblt := HX1.out.b.lt
  go_wp2_with fail
  refine (u_b _).mono ?_
  rintro e w2 ⟨pb, cb, rfl, hbm, hb⟩
  have hbb := hb
  have HX2 := Lib.hid (HX1.out.below hbb)
  have HA2 := Lib.hid (HA1.out.below hbb)
  have HB2 := Lib.hid hbm
  clear HX1 HA1 hb hbb hbm
  clear cb0 cb1 cb2 cb3 cb4 cb5 cb6 cb7 cblt
  obtain ⟨cb0, cb1, cb2, cb3, cb4, cb5, cb6, cb7⟩ := HX2.out.b.eightCU
  have cblt := HX2.out.b.lt
  obtain ⟨cd0, cd1, cd2, cd3, cd4, cd5, cd6, cd7⟩ := HX2.out.d.eightCU
  have cdlt := HX2.out.d.lt
  go_wp2_with fail
  refine (u_c _ _ (new_clp w2 rfl)).mono ?_
  rintro e w3 ⟨pc, cc, rfl, hcm, hb⟩
  have hbb := (below_box _).trans (hb.mono (by simp))
  have HX3 := Lib.hid (HX2.out.below hbb)
  have HA3 := Lib.hid (HA2.out.below hbb)
  have HB3 := Lib.hid (HB2.out.below hbb)
  have HC3 := Lib.hid hcm
  clear HX2 HA2 HB2 hb hbb hcm
  clear cb0 cb1 cb2 cb3 cb4 cb5 cb6 cb7 cblt
  clear cd0 cd1 cd2 cd3 cd4 cd5 cd6 cd7 cdlt
  go_wp2_with fail
  refine (u_f _).mono ?_
  rintro e w4 ⟨pf, cf, rfl, hb⟩
  have hbb := hb
  have HX4 := Lib.hid (HX3.out.below hbb)
  have HA4 := Lib.hid (HA3.out.below hbb)
  have HB4 := Lib.hid (HB3.out.below hbb)
  have HC4 := Lib.hid (HC3.out.below hbb)
  clear HX3 HA3 HB3 HC3 hb hbb
  obtain ⟨cd0, cd1, cd2, cd3, cd4, cd5, cd6, cd7⟩ := HX4.out.d.eightCU
  have cdlt := HX4.out.d.lt
  go_wp2_with fail
  refine (u_g _ _ (new_pt w4 rfl)).mono ?_
  rintro e w5 ⟨pg, cg, rfl, hb⟩
  have hbb := (below_box _).trans (hb.mono (by simp))
  have HX5 := Lib.hid (HX4.out.below hbb)
  have HA5 := Lib.hid (HA4.out.below hbb)
  have HB5 := Lib.hid (HB4.out.below hbb)
  have HC5 := Lib.hid (HC4.out.below hbb)
  clear HX4 HA4 HB4 HC4 hb hbb
  clear cd0 cd1 cd2 cd3 cd4 cd5 cd6 cd7 cdlt
  obtain ⟨cd0, cd1, cd2, cd3, cd4, cd5, cd6, cd7⟩ := HX5.out.d.eightCU
  have cdlt := HX5.out.d.lt
  obtain ⟨ca0, ca1, ca2, ca3, ca4, ca5, ca6, ca7⟩ := HX5.out.a.eightCU
  have calt := HX5.out.a.lt
  go_wp2_with fail
  refine (u_i _ _ _ ((new_ptm w5 rfl).below (below_box _)) (newSU _ (by simp))).mono ?_
  rintro e w6 ⟨rfl, hb⟩
  have hbb := (below_box _).trans (((below_box _).mono (by simp)).trans (hb.mono (by simp; omega)))
  have HX6 := Lib.hid (HX5.out.below hbb)
  have HA6 := Lib.hid (HA5.out.below hbb)
  have HB6 := Lib.hid (HB5.out.below hbb)
  have HC6 := Lib.hid (HC5.out.below hbb)
  clear HX5 HA5 HB5 HC5 hb hbb
  clear cd0 cd1 cd2 cd3 cd4 cd5 cd6 cd7 cdlt
  clear ca0 ca1 ca2 ca3 ca4 ca5 ca6 ca7 calt
  obtain ⟨cd0, cd1, cd2, cd3, cd4, cd5, cd6, cd7⟩ := HX6.out.d.eightCU
  have cdlt := HX6.out.d.lt
  obtain ⟨ca0, ca1, ca2, ca3, ca4, ca5, ca6, ca7⟩ := HX6.out.a.eightCU
  have calt := HX6.out.a.lt
  go_wp2_with fail
  refine (u_n _ _ (new_ptm w6 rfl)).mono ?_
  rintro e w7 ⟨rfl, hb⟩
  have hbb := (below_box _).trans (hb.mono (by simp))
  have HX7 := Lib.hid (HX6.out.below hbb)
  have HA7 := Lib.hid (HA6.out.below hbb)
  have HB7 := Lib.hid (HB6.out.below hbb)
  have HC7 := Lib.hid (HC6.out.below hbb)
  clear HX6 HA6 HB6 HC6 hb hbb
  clear cd0 cd1 cd2 cd3 cd4 cd5 cd6 cd7 cdlt
  clear ca0 ca1 ca2 ca3 ca4 ca5 ca6 ca7 calt
  obtain ⟨cc0, cc1, cc2, cc3, cc4, cc5, cc6, cc7⟩ := HX7.out.c.eightCU
  have cclt := HX7.out.c.lt
  obtain ⟨cd0, cd1, cd2, cd3, cd4, cd5, cd6, cd7⟩ := HX7.out.d.eightCU
  have cdlt := HX7.out.d.lt
  go_wp2_with fail
  refine (u_s _ _ [drM, ptM, drA] _ (HA7.out.below (below_box _)) (new_dpa w7 rfl)).mono ?_
  rintro e w8 ⟨rfl, hb⟩
  have hbb := (below_box _).trans (hb.mono (by simp))
  have HX8 := Lib.hid (HX7.out.below hbb)
  have HA8 := Lib.hid (HA7.out.below hbb)
  have HB8 := Lib.hid (HB7.out.below hbb)
  have HC8 := Lib.hid (HC7.out.below hbb)
  clear HX7 HA7 HB7 HC7 hb hbb
  clear cc0 cc1 cc2 cc3 cc4 cc5 cc6 cc7 cclt
  clear cd0 cd1 cd2 cd3 cd4 cd5 cd6 cd7 cdlt
  obtain ⟨cc0, cc1, cc2, cc3, cc4, cc5, cc6, cc7⟩ := HX8.out.c.eightCU
  have cclt := HX8.out.c.lt
  go_wp2_with fail
  refine (u_s _ _ [drM] _ (HB8.out.below (below_box _)) (new_dr w8 rfl)).mono ?_
  rintro e w9 ⟨rfl, hb⟩
  have hbb := (below_box _).trans (hb.mono (by simp))
  have HX9 := Lib.hid (HX8.out.below hbb)
  have HA9 := Lib.hid (HA8.out.below hbb)
  have HB9 := Lib.hid (HB8.out.below hbb)
  have HC9 := Lib.hid (HC8.out.below hbb)
  clear HX8 HA8 HB8 HC8 hb hbb
  clear cc0 cc1 cc2 cc3 cc4 cc5 cc6 cc7 cclt
  obtain ⟨cc0, cc1, cc2, cc3, cc4, cc5, cc6, cc7⟩ := HX9.out.c.eightCU
  have cclt := HX9.out.c.lt
  obtain ⟨cd0, cd1, cd2, cd3, cd4, cd5, cd6, cd7⟩ := HX9.out.d.eightCU
  have cdlt := HX9.out.d.lt
  go_wp2_with fail
  refine (u_s _ _ [drM, ptM] _ (HC9.out.below (below_box _)) (new_dp w9 rfl)).mono ?_
  rintro e w10 ⟨rfl, hb⟩
  have hbb := (below_box _).trans (hb.mono (by simp))
  have HX10 := Lib.hid (HX9.out.below hbb)
  have HA10 := Lib.hid (HA9.out.below hbb)
  have HB10 := Lib.hid (HB9.out.below hbb)
  have HC10 := Lib.hid (HC9.out.below hbb)
  clear HX9 HA9 HB9 HC9 hb hbb
  clear cc0 cc1 cc2 cc3 cc4 cc5 cc6 cc7 cclt
  clear cd0 cd1 cd2 cd3 cd4 cd5 cd6 cd7 cdlt
  go_wp2_with fail
  go_ret
  exact ⟨by first | rfl | simp, HX10.out.g⟩

end Go.Proofs.YtfpcaoacbjhkgaaGreat
