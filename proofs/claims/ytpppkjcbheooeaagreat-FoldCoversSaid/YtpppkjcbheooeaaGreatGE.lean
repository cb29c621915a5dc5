/-
  Walks: the messages of the fixed examples of package fold, and what the calls there give.
-/
import Derived.Test.YtpppkjcbheooeaaGreatFYI
import Derived.Test.YtpppkjcbheooeaaGreatGAB
namespace Go.Proofs.YtpppkjcbheooeaaGreat
namespace Fx
open Go.RowKit Go.Sort
set_option linter.unusedVariables false
def mA : Ms := ⟨1, [97, 47, 1], [49], [], [], [], [], 0⟩
def mB : Ms := ⟨1, [98, 47, 1], [], [], [], [], [], 0⟩
def mC : Ms := ⟨1, [97, 47, 1], [50], [], [], [], [], 0⟩
def mD : Ms := ⟨3, [], [], [97, 47], [97, 48], [], [], 0⟩
def mV : Ms := ⟨4, [], [], [], [], [97, 47], [98, 47], 0⟩
def mS : Ms := ⟨6, [], [], [97, 47, 1], [97, 47, 1, 0], [], [], 7⟩
def dD : Sp := ([97, 47], [97, 48])
instance (m : Ms) : Decidable (SizeM m) := by unfold SizeM; infer_instance
instance (m : Ms) : Decidable (Ok m) := by unfold Ok; infer_instance
theorem sz1 (w : World) (o : Obj) : w.heap.size + 1 = (w.alloc o).heap.size := by simp
theorem sz2 (w : World) (o p : Obj) : w.heap.size + 1 + 1 = ((w.alloc o).alloc p).heap.size := by simp
theorem ims_alloc {w : World} {v : Value} {l : List Ms} (h : IsMsgs w v l) (o : Obj) : IsMsgs (w.alloc o) v l := h.below (below_box _)
theorem ims_drew {w : World} {v : Value} {l : List Ms} (h : IsMsgs w v l) : IsMsgs w.drew v l := h.below (below_drewN w 1)
/-- The messages of the examples in their boxes, and what two calls handed back. -/
structure SF (w : World) (n1 n2 n3 n4 n5 n6 : Nat) (v7 v8 v9 v10 : Value) (wx : World) : Prop where
  bA : Blk wx n1 25 (encM mA)
  bB : Blk wx n2 25 (encM mB)
  bC : Blk wx n3 25 (encM mC)
  bD : Blk wx n4 25 (encM mD)
  bV : Blk wx n5 25 (encM mV)
  bS : Blk wx n6 25 (encM mS)
  l7 : IsMsgs wx v7 [mD]
  l9 : IsMsgs wx v9 []
  d8 : IsSpans wx v8 [dD]
  d10 : IsSpans wx v10 [([], [])]
  g : Below w.heap.size w wx
section
variable {w wx wy : World} {n1 n2 n3 n4 n5 n6 : Nat} {v7 v8 v9 v10 : Value}
theorem SF.below (h : SF w n1 n2 n3 n4 n5 n6 v7 v8 v9 v10 wx) (hb : Below wx.heap.size wx wy) : SF w n1 n2 n3 n4 n5 n6 v7 v8 v9 v10 wy := ⟨h.bA.below hb h.bA.lt, h.bB.below hb h.bB.lt, h.bC.below hb h.bC.lt, h.bD.below hb h.bD.lt, h.bV.below hb h.bV.lt, h.bS.below hb h.bS.lt, h.l7.below hb, h.l9.below hb, h.d8.below hb, h.d10.below hb, h.g.trans (hb.mono h.g.size)⟩
theorem SF.alloc (h : SF w n1 n2 n3 n4 n5 n6 v7 v8 v9 v10 wx) (o : Obj) : SF w n1 n2 n3 n4 n5 n6 v7 v8 v9 v10 (wx.alloc o) := h.below (below_box _)
theorem SF.drew (h : SF w n1 n2 n3 n4 n5 n6 v7 v8 v9 v10 wx) : SF w n1 n2 n3 n4 n5 n6 v7 v8 v9 v10 wx.drew := h.below (below_drewN wx 1)
theorem SF.aldrew (h : SF w n1 n2 n3 n4 n5 n6 v7 v8 v9 v10 wx.drew) (o : Obj) : SF w n1 n2 n3 n4 n5 n6 v7 v8 v9 v10 (wx.alloc o).drew := SF.alloc h o
theorem SF.cA (h : SF w n1 n2 n3 n4 n5 n6 v7 v8 v9 v10 wx) : wx.cell? ⟨n1, 0, none⟩ = some (.int .i64 1) ∧ wx.cell? ⟨n1, 1, none⟩ = some (.string ⟨#[97, 47, 1]⟩) ∧ wx.cell? ⟨n1, 2, none⟩ = some (.string ⟨#[49]⟩) ∧ wx.cell? ⟨n1, 3, none⟩ = some (.string ⟨#[]⟩) ∧ wx.cell? ⟨n1, 4, none⟩ = some (.string ⟨#[]⟩) ∧ wx.cell? ⟨n1, 5, none⟩ = some (.string ⟨#[]⟩) ∧ wx.cell? ⟨n1, 6, none⟩ = some (.string ⟨#[]⟩) ∧ wx.cell? ⟨n1, 7, none⟩ = some (.int .i64 0) := ⟨h.bA.c0 0 _ rfl, h.bA.c0 1 _ rfl, h.bA.c0 2 _ rfl, h.bA.c0 3 _ rfl, h.bA.c0 4 _ rfl, h.bA.c0 5 _ rfl, h.bA.c0 6 _ rfl, h.bA.c0 7 _ rfl⟩
theorem SF.cB (h : SF w n1 n2 n3 n4 n5 n6 v7 v8 v9 v10 wx) : wx.cell? ⟨n2, 0, none⟩ = some (.int .i64 1) ∧ wx.cell? ⟨n2, 1, none⟩ = some (.string ⟨#[98, 47, 1]⟩) ∧ wx.cell? ⟨n2, 2, none⟩ = some (.string ⟨#[]⟩) ∧ wx.cell? ⟨n2, 3, none⟩ = some (.string ⟨#[]⟩) ∧ wx.cell? ⟨n2, 4, none⟩ = some (.string ⟨#[]⟩) ∧ wx.cell? ⟨n2, 5, none⟩ = some (.string ⟨#[]⟩) ∧ wx.cell? ⟨n2, 6, none⟩ = some (.string ⟨#[]⟩) ∧ wx.cell? ⟨n2, 7, none⟩ = some (.int .i64 0) := ⟨h.bB.c0 0 _ rfl, h.bB.c0 1 _ rfl, h.bB.c0 2 _ rfl, h.bB.c0 3 _ rfl, h.bB.c0 4 _ rfl, h.bB.c0 5 _ rfl, h.bB.c0 6 _ rfl, h.bB.c0 7 _ rfl⟩
theorem SF.cC (h : SF w n1 n2 n3 n4 n5 n6 v7 v8 v9 v10 wx) : wx.cell? ⟨n3, 0, none⟩ = some (.int .i64 1) ∧ wx.cell? ⟨n3, 1, none⟩ = some (.string ⟨#[97, 47, 1]⟩) ∧ wx.cell? ⟨n3, 2, none⟩ = some (.string ⟨#[50]⟩) ∧ wx.cell? ⟨n3, 3, none⟩ = some (.string ⟨#[]⟩) ∧ wx.cell? ⟨n3, 4, none⟩ = some (.string ⟨#[]⟩) ∧ wx.cell? ⟨n3, 5, none⟩ = some (.string ⟨#[]⟩) ∧ wx.cell? ⟨n3, 6, none⟩ = some (.string ⟨#[]⟩) ∧ wx.cell? ⟨n3, 7, none⟩ = some (.int .i64 0) := ⟨h.bC.c0 0 _ rfl, h.bC.c0 1 _ rfl, h.bC.c0 2 _ rfl, h.bC.c0 3 _ rfl, h.bC.c0 4 _ rfl, h.bC.c0 5 _ rfl, h.bC.c0 6 _ rfl, h.bC.c0 7 _ rfl⟩
theorem SF.cD (h : SF w n1 n2 n3 n4 n5 n6 v7 v8 v9 v10 wx) : wx.cell? ⟨n4, 0, none⟩ = some (.int .i64 3) ∧ wx.cell? ⟨n4, 1, none⟩ = some (.string ⟨#[]⟩) ∧ wx.cell? ⟨n4, 2, none⟩ = some (.string ⟨#[]⟩) ∧ wx.cell? ⟨n4, 3, none⟩ = some (.string ⟨#[97, 47]⟩) ∧ wx.cell? ⟨n4, 4, none⟩ = some (.string ⟨#[97, 48]⟩) ∧ wx.cell? ⟨n4, 5, none⟩ = some (.string ⟨#[]⟩) ∧ wx.cell? ⟨n4, 6, none⟩ = some (.string ⟨#[]⟩) ∧ wx.cell? ⟨n4, 7, none⟩ = some (.int .i64 0) := ⟨h.bD.c0 0 _ rfl, h.bD.c0 1 _ rfl, h.bD.c0 2 _ rfl, h.bD.c0 3 _ rfl, h.bD.c0 4 _ rfl, h.bD.c0 5 _ rfl, h.bD.c0 6 _ rfl, h.bD.c0 7 _ rfl⟩
theorem SF.cV (h : SF w n1 n2 n3 n4 n5 n6 v7 v8 v9 v10 wx) : wx.cell? ⟨n5, 0, none⟩ = some (.int .i64 4) ∧ wx.cell? ⟨n5, 1, none⟩ = some (.string ⟨#[]⟩) ∧ wx.cell? ⟨n5, 2, none⟩ = some (.string ⟨#[]⟩) ∧ wx.cell? ⟨n5, 3, none⟩ = some (.string ⟨#[]⟩) ∧ wx.cell? ⟨n5, 4, none⟩ = some (.string ⟨#[]⟩) ∧ wx.cell? ⟨n5, 5, none⟩ = some (.string ⟨#[97, 47]⟩) ∧ wx.cell? ⟨n5, 6, none⟩ = some (.string ⟨#[98, 47]⟩) ∧ wx.cell? ⟨n5, 7, none⟩ = some (.int .i64 0) := ⟨h.bV.c0 0 _ rfl, h.bV.c0 1 _ rfl, h.bV.c0 2 _ rfl, h.bV.c0 3 _ rfl, h.bV.c0 4 _ rfl, h.bV.c0 5 _ rfl, h.bV.c0 6 _ rfl, h.bV.c0 7 _ rfl⟩
theorem SF.cS (h : SF w n1 n2 n3 n4 n5 n6 v7 v8 v9 v10 wx) : wx.cell? ⟨n6, 0, none⟩ = some (.int .i64 6) ∧ wx.cell? ⟨n6, 1, none⟩ = some (.string ⟨#[]⟩) ∧ wx.cell? ⟨n6, 2, none⟩ = some (.string ⟨#[]⟩) ∧ wx.cell? ⟨n6, 3, none⟩ = some (.string ⟨#[97, 47, 1]⟩) ∧ wx.cell? ⟨n6, 4, none⟩ = some (.string ⟨#[97, 47, 1, 0]⟩) ∧ wx.cell? ⟨n6, 5, none⟩ = some (.string ⟨#[]⟩) ∧ wx.cell? ⟨n6, 6, none⟩ = some (.string ⟨#[]⟩) ∧ wx.cell? ⟨n6, 7, none⟩ = some (.int .i64 7) := ⟨h.bS.c0 0 _ rfl, h.bS.c0 1 _ rfl, h.bS.c0 2 _ rfl, h.bS.c0 3 _ rfl, h.bS.c0 4 _ rfl, h.bS.c0 5 _ rfl, h.bS.c0 6 _ rfl, h.bS.c0 7 _ rfl⟩
end
theorem new_ABC {n : Nat} (W : World) (hn : n = W.heap.size) : IsMsgs (W.alloc (.cells #[.int .i64 1, .string ⟨#[97, 47, 1]⟩, .string ⟨#[49]⟩, .string ⟨#[]⟩, .string ⟨#[]⟩, .string ⟨#[]⟩, .string ⟨#[]⟩, .int .i64 0, .int .i64 1, .string ⟨#[98, 47, 1]⟩, .string ⟨#[]⟩, .string ⟨#[]⟩, .string ⟨#[]⟩, .string ⟨#[]⟩, .string ⟨#[]⟩, .int .i64 0, .int .i64 1, .string ⟨#[97, 47, 1]⟩, .string ⟨#[50]⟩, .string ⟨#[]⟩, .string ⟨#[]⟩, .string ⟨#[]⟩, .string ⟨#[]⟩, .int .i64 0] 25)) (.slice (some ⟨n, 0, none⟩) 3 3) [mA, mB, mC] := by
  subst hn
  refine ⟨_, 3, rfl, Nat.le_refl _, by unfold maxLen; omega, fun _ => ⟨_, 0, rfl, by simp, fun i hi => ?_⟩⟩
  unfold MAt
  match i, hi with
  | 0, _ => simp [World.cell?_alloc_new, mA, mB, mC, Str]
  | 1, _ => simp [World.cell?_alloc_new, mA, mB, mC, Str]
  | 2, _ => simp [World.cell?_alloc_new, mA, mB, mC, Str]
theorem new_BC {n : Nat} (W : World) (hn : n = W.heap.size) : IsMsgs (W.alloc (.cells #[.int .i64 1, .string ⟨#[98, 47, 1]⟩, .string ⟨#[]⟩, .string ⟨#[]⟩, .string ⟨#[]⟩, .string ⟨#[]⟩, .string ⟨#[]⟩, .int .i64 0, .int .i64 1, .string ⟨#[97, 47, 1]⟩, .string ⟨#[50]⟩, .string ⟨#[]⟩, .string ⟨#[]⟩, .string ⟨#[]⟩, .string ⟨#[]⟩, .int .i64 0] 25)) (.slice (some ⟨n, 0, none⟩) 2 2) [mB, mC] := by
  subst hn
  refine ⟨_, 2, rfl, Nat.le_refl _, by unfold maxLen; omega, fun _ => ⟨_, 0, rfl, by simp, fun i hi => ?_⟩⟩
  unfold MAt
  match i, hi with
  | 0, _ => simp [World.cell?_alloc_new, mB, mC, Str]
  | 1, _ => simp [World.cell?_alloc_new, mB, mC, Str]
theorem new_ASC {n : Nat} (W : World) (hn : n = W.heap.size) : IsMsgs (W.alloc (.cells #[.int .i64 1, .string ⟨#[97, 47, 1]⟩, .string ⟨#[49]⟩, .string ⟨#[]⟩, .string ⟨#[]⟩, .string ⟨#[]⟩, .string ⟨#[]⟩, .int .i64 0, .int .i64 6, .string ⟨#[]⟩, .string ⟨#[]⟩, .string ⟨#[97, 47, 1]⟩, .string ⟨#[97, 47, 1, 0]⟩, .string ⟨#[]⟩, .string ⟨#[]⟩, .int .i64 7, .int .i64 1, .string ⟨#[97, 47, 1]⟩, .string ⟨#[50]⟩, .string ⟨#[]⟩, .string ⟨#[]⟩, .string ⟨#[]⟩, .string ⟨#[]⟩, .int .i64 0] 25)) (.slice (some ⟨n, 0, none⟩) 3 3) [mA, mS, mC] := by
  subst hn
  refine ⟨_, 3, rfl, Nat.le_refl _, by unfold maxLen; omega, fun _ => ⟨_, 0, rfl, by simp, fun i hi => ?_⟩⟩
  unfold MAt
  match i, hi with
  | 0, _ => simp [World.cell?_alloc_new, mA, mC, mS, Str]
  | 1, _ => simp [World.cell?_alloc_new, mA, mC, mS, Str]
  | 2, _ => simp [World.cell?_alloc_new, mA, mC, mS, Str]
theorem new_C {n : Nat} (W : World) (hn : n = W.heap.size) : IsMsgs (W.alloc (.cells #[.int .i64 1, .string ⟨#[97, 47, 1]⟩, .string ⟨#[50]⟩, .string ⟨#[]⟩, .string ⟨#[]⟩, .string ⟨#[]⟩, .string ⟨#[]⟩, .int .i64 0] 25)) (.slice (some ⟨n, 0, none⟩) 1 1) [mC] := by
  subst hn
  refine ⟨_, 1, rfl, Nat.le_refl _, by unfold maxLen; omega, fun _ => ⟨_, 0, rfl, by simp, fun i hi => ?_⟩⟩
  unfold MAt
  match i, hi with
  | 0, _ => simp [World.cell?_alloc_new, mC, Str]
theorem new_D {n : Nat} (W : World) (hn : n = W.heap.size) : IsMsgs (W.alloc (.cells #[.int .i64 3, .string ⟨#[]⟩, .string ⟨#[]⟩, .string ⟨#[97, 47]⟩, .string ⟨#[97, 48]⟩, .string ⟨#[]⟩, .string ⟨#[]⟩, .int .i64 0] 25)) (.slice (some ⟨n, 0, none⟩) 1 1) [mD] := by
  subst hn
  refine ⟨_, 1, rfl, Nat.le_refl _, by unfold maxLen; omega, fun _ => ⟨_, 0, rfl, by simp, fun i hi => ?_⟩⟩
  unfold MAt
  match i, hi with
  | 0, _ => simp [World.cell?_alloc_new, mD, Str]
theorem new_AVD {n : Nat} (W : World) (hn : n = W.heap.size) : IsMsgs (W.alloc (.cells #[.int .i64 1, .string ⟨#[97, 47, 1]⟩, .string ⟨#[49]⟩, .string ⟨#[]⟩, .string ⟨#[]⟩, .string ⟨#[]⟩, .string ⟨#[]⟩, .int .i64 0, .int .i64 4, .string ⟨#[]⟩, .string ⟨#[]⟩, .string ⟨#[]⟩, .string ⟨#[]⟩, .string ⟨#[97, 47]⟩, .string ⟨#[98, 47]⟩, .int .i64 0, .int .i64 3, .string ⟨#[]⟩, .string ⟨#[]⟩, .string ⟨#[97, 47]⟩, .string ⟨#[97, 48]⟩, .string ⟨#[]⟩, .string ⟨#[]⟩, .int .i64 0] 25)) (.slice (some ⟨n, 0, none⟩) 3 3) [mA, mV, mD] := by
  subst hn
  refine ⟨_, 3, rfl, Nat.le_refl _, by unfold maxLen; omega, fun _ => ⟨_, 0, rfl, by simp, fun i hi => ?_⟩⟩
  unfold MAt
  match i, hi with
  | 0, _ => simp [World.cell?_alloc_new, mA, mD, mV, Str]
  | 1, _ => simp [World.cell?_alloc_new, mA, mD, mV, Str]
  | 2, _ => simp [World.cell?_alloc_new, mA, mD, mV, Str]
theorem new_B {n : Nat} (W : World) (hn : n = W.heap.size) : IsMsgs (W.alloc (.cells #[.int .i64 1, .string ⟨#[98, 47, 1]⟩, .string ⟨#[]⟩, .string ⟨#[]⟩, .string ⟨#[]⟩, .string ⟨#[]⟩, .string ⟨#[]⟩, .int .i64 0] 25)) (.slice (some ⟨n, 0, none⟩) 1 1) [mB] := by
  subst hn
  refine ⟨_, 1, rfl, Nat.le_refl _, by unfold maxLen; omega, fun _ => ⟨_, 0, rfl, by simp, fun i hi => ?_⟩⟩
  unfold MAt
  match i, hi with
  | 0, _ => simp [World.cell?_alloc_new, mB, Str]
theorem new_V {n : Nat} (W : World) (hn : n = W.heap.size) : IsMsgs (W.alloc (.cells #[.int .i64 4, .string ⟨#[]⟩, .string ⟨#[]⟩, .string ⟨#[]⟩, .string ⟨#[]⟩, .string ⟨#[97, 47]⟩, .string ⟨#[98, 47]⟩, .int .i64 0] 25)) (.slice (some ⟨n, 0, none⟩) 1 1) [mV] := by
  subst hn
  refine ⟨_, 1, rfl, Nat.le_refl _, by unfold maxLen; omega, fun _ => ⟨_, 0, rfl, by simp, fun i hi => ?_⟩⟩
  unfold MAt
  match i, hi with
  | 0, _ => simp [World.cell?_alloc_new, mV, Str]
theorem new_AD {n : Nat} (W : World) (hn : n = W.heap.size) : IsMsgs (W.alloc (.cells #[.int .i64 1, .string ⟨#[97, 47, 1]⟩, .string ⟨#[49]⟩, .string ⟨#[]⟩, .string ⟨#[]⟩, .string ⟨#[]⟩, .string ⟨#[]⟩, .int .i64 0, .int .i64 3, .string ⟨#[]⟩, .string ⟨#[]⟩, .string ⟨#[97, 47]⟩, .string ⟨#[97, 48]⟩, .string ⟨#[]⟩, .string ⟨#[]⟩, .int .i64 0] 25)) (.slice (some ⟨n, 0, none⟩) 2 2) [mA, mD] := by
  subst hn
  refine ⟨_, 2, rfl, Nat.le_refl _, by unfold maxLen; omega, fun _ => ⟨_, 0, rfl, by simp, fun i hi => ?_⟩⟩
  unfold MAt
  match i, hi with
  | 0, _ => simp [World.cell?_alloc_new, mA, mD, Str]
  | 1, _ => simp [World.cell?_alloc_new, mA, mD, Str]
theorem new_A {n : Nat} (W : World) (hn : n = W.heap.size) : IsMsgs (W.alloc (.cells #[.int .i64 1, .string ⟨#[97, 47, 1]⟩, .string ⟨#[49]⟩, .string ⟨#[]⟩, .string ⟨#[]⟩, .string ⟨#[]⟩, .string ⟨#[]⟩, .int .i64 0] 25)) (.slice (some ⟨n, 0, none⟩) 1 1) [mA] := by
  subst hn
  refine ⟨_, 1, rfl, Nat.le_refl _, by unfold maxLen; omega, fun _ => ⟨_, 0, rfl, by simp, fun i hi => ?_⟩⟩
  unfold MAt
  match i, hi with
  | 0, _ => simp [World.cell?_alloc_new, mA, Str]
section
variable {w wx : World} {n1 n2 n3 n4 n5 n6 : Nat} {v7 v8 v9 v10 : Value}
theorem sc_redABC (hs : SF w n1 n2 n3 n4 n5 n6 v7 v8 v9 v10 wx) {v : Value} (hv : IsMsgs wx v [mA, mB, mC]) : Calls Tryz.prog 27 #[v] wx fun e w' => ∃ p c, e = .returned (.slice p 2 c) ∧ IsMsgs w' (.slice p 2 c) [mB, mC] ∧ Below wx.heap.size wx w' ∧ SF w n1 n2 n3 n4 n5 n6 v7 v8 v9 v10 w' :=
  (reduce_w v [mA, mB, mC] wx hv (by decide) (by decide)).mono fun e w' ⟨v', h1, h2, h3⟩ => by
    rw [show reduceS [mA, mB, mC] = [mB, mC] from by decide +kernel] at h2
    obtain ⟨p, c, h4, -⟩ := id h2
    rw [h4] at h1 h2
    exact ⟨p, c, h1, h2, h3, hs.below h3⟩
theorem sc_redASC (hs : SF w n1 n2 n3 n4 n5 n6 v7 v8 v9 v10 wx) {v : Value} (hv : IsMsgs wx v [mA, mS, mC]) : Calls Tryz.prog 27 #[v] wx fun e w' => ∃ p c, e = .returned (.slice p 1 c) ∧ IsMsgs w' (.slice p 1 c) [mC] ∧ Below wx.heap.size wx w' ∧ SF w n1 n2 n3 n4 n5 n6 v7 v8 v9 v10 w' :=
  (reduce_w v [mA, mS, mC] wx hv (by decide) (by decide)).mono fun e w' ⟨v', h1, h2, h3⟩ => by
    rw [show reduceS [mA, mS, mC] = [mC] from by decide +kernel] at h2
    obtain ⟨p, c, h4, -⟩ := id h2
    rw [h4] at h1 h2
    exact ⟨p, c, h1, h2, h3, hs.below h3⟩
theorem sc_redAVD (hs : SF w n1 n2 n3 n4 n5 n6 v7 v8 v9 v10 wx) {v : Value} (hv : IsMsgs wx v [mA, mV, mD]) : Calls Tryz.prog 27 #[v] wx fun e w' => ∃ p c, e = .returned (.slice p 3 c) ∧ IsMsgs w' (.slice p 3 c) [mA, mV, mD] ∧ Below wx.heap.size wx w' ∧ SF w n1 n2 n3 n4 n5 n6 v7 v8 v9 v10 w' :=
  (reduce_w v [mA, mV, mD] wx hv (by decide) (by decide)).mono fun e w' ⟨v', h1, h2, h3⟩ => by
    rw [show reduceS [mA, mV, mD] = [mA, mV, mD] from by decide +kernel] at h2
    obtain ⟨p, c, h4, -⟩ := id h2
    rw [h4] at h1 h2
    exact ⟨p, c, h1, h2, h3, hs.below h3⟩
theorem sc_mergeBV (hs : SF w n1 n2 n3 n4 n5 n6 v7 v8 v9 v10 wx) {v u : Value} (hv : IsMsgs wx v [mB]) (hu : IsMsgs wx u [mV]) : Calls Tryz.prog 29 #[v, u] wx fun e w' => ∃ p c, e = .returned (.slice p 1 c) ∧ IsMsgs w' (.slice p 1 c) [mV] ∧ Below wx.heap.size wx w' ∧ SF w n1 n2 n3 n4 n5 n6 v7 v8 v9 v10 w' :=
  (merge_w v u [mB] [mV] wx hv hu (by decide) (by decide) (by decide)).mono fun e w' ⟨v', h1, h2, h3⟩ => by
    rw [show mergeM [mB] [mV] = [mV] from by decide +kernel] at h2
    obtain ⟨p, c, h4, -⟩ := id h2
    rw [h4] at h1 h2
    exact ⟨p, c, h1, h2, h3, hs.below h3⟩
theorem sc_fsame (l : List Ms) (hs : SF w n1 n2 n3 n4 n5 n6 v7 v8 v9 v10 wx) {v u : Value} (hv : IsMsgs wx v l) (hu : IsMsgs wx u l) : Calls Tryz.prog 25 #[v, u] wx fun e w' => e = .returned (.bool true) ∧ Below wx.heap.size wx w' ∧ SF w n1 n2 n3 n4 n5 n6 v7 v8 v9 v10 w' :=
  (fsame_w v u l l wx hv hu).mono fun e w' ⟨h1, n, h2⟩ => ⟨by rw [h1]; simp, by rw [h2]; exact below_drewN wx n, by rw [h2]; exact hs.below (below_drewN wx n)⟩
theorem sc_fspans (l : List Sp) (hs : SF w n1 n2 n3 n4 n5 n6 v7 v8 v9 v10 wx) {v u : Value} (hv : IsSpans wx v l) (hu : IsSpans wx u l) : Calls Tryz.prog 26 #[v, u] wx fun e w' => e = .returned (.bool true) ∧ Below wx.heap.size wx w' ∧ SF w n1 n2 n3 n4 n5 n6 v7 v8 v9 v10 w' :=
  (fspans_w v u l l wx hv hu).mono fun e w' ⟨h1, n, h2⟩ => ⟨by rw [h1]; simp, by rw [h2]; exact below_drewN wx n, by rw [h2]; exact hs.below (below_drewN wx n)⟩
end
theorem new_dD {n : Nat} (W : World) (hn : n = W.heap.size) : IsSpans (W.alloc (.cells #[.string ⟨#[97, 47]⟩, .string ⟨#[97, 48]⟩] 23)) (.slice (some ⟨n, 0, none⟩) 1 1) [dD] := one_spans ([97, 47], [97, 48]) 23 hn
theorem new_d0 {n : Nat} (W : World) (hn : n = W.heap.size) : IsSpans (W.alloc (.cells #[.string ⟨#[]⟩, .string ⟨#[]⟩] 23)) (.slice (some ⟨n, 0, none⟩) 1 1) [([], [])] := one_spans ([], []) 23 hn
theorem sc_live1 (wx : World) {v : Value} (hv : IsMsgs wx v [mA, mD]) : Calls Tryz.prog 23 #[v, .slice none 0 0] wx fun e w' => ∃ p c q k, e = .returned (.tuple #[.slice p 1 c, .slice q 1 k]) ∧ IsMsgs w' (.slice p 1 c) [mD] ∧ IsSpans w' (.slice q 1 k) [dD] ∧ Below wx.heap.size wx w' :=
  (live_any v (.slice none 0 0) [mA, mD] [] wx hv (by decide) (isSpans_nil wx) (by decide) (by decide)).mono fun e w' ⟨v1, v2, h1, h2, h3, h4⟩ => by
    rw [show liveS [mA, mD] [] = ([mD], [dD]) from by decide +kernel] at h2 h3
    obtain ⟨p, c, e1, -⟩ := id h2
    obtain ⟨q, k, e2, -⟩ := id h3
    rw [e1] at h1 h2
    rw [e2] at h1 h3
    exact ⟨p, c, q, k, h1, h2, h3, h4⟩
theorem sc_live2 (wx : World) {v u : Value} (hv : IsMsgs wx v [mA]) (hu : IsSpans wx u [([], [])]) : Calls Tryz.prog 23 #[v, u] wx fun e w' => ∃ p c q k, e = .returned (.tuple #[.slice p 0 c, .slice q 1 k]) ∧ IsMsgs w' (.slice p 0 c) [] ∧ IsSpans w' (.slice q 1 k) [([], [])] ∧ Below wx.heap.size wx w' :=
  (live_any v u [mA] [([], [])] wx hv (by decide) hu (by decide) (by decide)).mono fun e w' ⟨v1, v2, h1, h2, h3, h4⟩ => by
    rw [show liveS [mA] [([], [])] = ([], [([], [])]) from by decide +kernel] at h2 h3
    obtain ⟨p, c, e1, -⟩ := id h2
    obtain ⟨q, k, e2, -⟩ := id h3
    rw [e1] at h1 h2
    rw [e2] at h1 h3
    exact ⟨p, c, q, k, h1, h2, h3, h4⟩
theorem sc_red0 (wx : World) : Calls Tryz.prog 27 #[.slice none 0 0] wx fun e w' => ∃ p c, e = .returned (.slice p 0 c) ∧ Below wx.heap.size wx w' :=
  (reduce_w (.slice none 0 0) [] wx ⟨none, 0, rfl, Nat.le_refl _, by unfold maxLen; omega, fun h => absurd rfl h⟩ (by simp) (by decide)).mono fun e w' ⟨v', h1, h2, h3⟩ => by
    rw [show reduceS [] = [] from by decide +kernel] at h2
    obtain ⟨p, c, h4, -⟩ := id h2
    rw [h4] at h1
    exact ⟨p, c, h1, h3⟩

/-- One region of a text, by its number. -/
def codeReg (n : Nat) : Code → Option Code
  | .region id ops d => if id = n then some (.region id ops d) else none
  | .seq a b => match codeReg n a with
    | some c => some c
    | none => codeReg n b
  | .block _ c => codeReg n c
  | .loop c => codeReg n c
  | .scope c => codeReg n c
  | .cond _ a b => match codeReg n a with
    | some c => some c
    | none => codeReg n b
  | _ => none


end Fx
end Go.Proofs.YtpppkjcbheooeaaGreat
