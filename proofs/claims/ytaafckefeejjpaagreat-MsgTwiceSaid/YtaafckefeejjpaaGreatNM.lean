/-
  Walks: the fixed examples that every law of package msg tries.
-/
import Derived.Test.YtaafckefeejjpaaGreatNH
import Derived.Test.YtaafckefeejjpaaGreatNJ
namespace Go.Proofs.YtaafckefeejjpaaGreat
open Go.RowKit Go.Sort
set_option linter.unusedVariables false
-- attribute [local go_sem ↓] Go.wp_at_zero Go.wp_at_succ

def mQ : Ms := ⟨2, [107], [], [], [], [], [], 0⟩
/-- The examples, and a message that was read. -/
structure San3 (w : World) (n0 n1 n2 n3 n4 n5 n6 k13 : Nat) (wx : World) : Prop where
  s : SanSt w n0 n1 n2 n3 n4 n5 n6 wx
  q : MBlk wx k13 mQ
section
variable {w wx wy : World} {n0 n1 n2 n3 n4 n5 n6 k13 : Nat}
theorem San3.below (h : San3 w n0 n1 n2 n3 n4 n5 n6 k13 wx) (hb : Below wx.heap.size wx wy) : San3 w n0 n1 n2 n3 n4 n5 n6 k13 wy := ⟨h.s.below hb, h.q.below hb h.q.lt⟩
theorem San3.alloc (h : San3 w n0 n1 n2 n3 n4 n5 n6 k13 wx) (o : Obj) : San3 w n0 n1 n2 n3 n4 n5 n6 k13 (wx.alloc o) := h.below (below_box _)
theorem San3.drew (h : San3 w n0 n1 n2 n3 n4 n5 n6 k13 wx) : San3 w n0 n1 n2 n3 n4 n5 n6 k13 wx.drew := h.below (below_drewN wx 1)
theorem San3.cq (h : San3 w n0 n1 n2 n3 n4 n5 n6 k13 wx) : wx.cell? ⟨k13, 0, none⟩ = some (.int .i64 2) ∧ wx.cell? ⟨k13, 1, none⟩ = some (.string ⟨#[107]⟩) ∧ wx.cell? ⟨k13, 2, none⟩ = some (.string ⟨#[]⟩) ∧ wx.cell? ⟨k13, 3, none⟩ = some (.string ⟨#[]⟩) ∧ wx.cell? ⟨k13, 4, none⟩ = some (.string ⟨#[]⟩) ∧ wx.cell? ⟨k13, 5, none⟩ = some (.string ⟨#[]⟩) ∧ wx.cell? ⟨k13, 6, none⟩ = some (.string ⟨#[]⟩) ∧ wx.cell? ⟨k13, 7, none⟩ = some (.int .i64 0) := ⟨h.q.c0 0 _ rfl, h.q.c0 1 _ rfl, h.q.c0 2 _ rfl, h.q.c0 3 _ rfl, h.q.c0 4 _ rfl, h.q.c0 5 _ rfl, h.q.c0 6 _ rfl, h.q.c0 7 _ rfl⟩
end
theorem sc_valid1 (w : World) : Calls Tryz.prog 34 #[.agg #[.int .i64 4, .string ⟨#[]⟩, .string ⟨#[]⟩, .string ⟨#[]⟩, .string ⟨#[]⟩, .string ⟨#[97, 47]⟩, .string ⟨#[98, 47]⟩, .int .i64 0]] w fun e w' => e = .returned (.bool true) ∧ Below w.heap.size w w' :=
  (valid_w mV w).mono fun e w' ⟨h1, h2⟩ => ⟨by rw [h1, show validM mV = true from by decide +kernel], h2.below (Nat.le_refl _)⟩
theorem sc_valid2 (w : World) : Calls Tryz.prog 34 #[.agg #[.int .i64 0, .string ⟨#[]⟩, .string ⟨#[]⟩, .string ⟨#[]⟩, .string ⟨#[]⟩, .string ⟨#[]⟩, .string ⟨#[]⟩, .int .i64 0]] w fun e w' => e = .returned (.bool false) ∧ Below w.heap.size w w' :=
  (valid_w (zeroM 0) w).mono fun e w' ⟨h1, h2⟩ => ⟨by rw [h1, show validM (zeroM 0) = false from by decide +kernel], h2.below (Nat.le_refl _)⟩
theorem sc_free1 (w : World) : Calls Tryz.prog 74 #[.agg #[.int .i64 1, .string ⟨#[97, 47, 122]⟩, .string ⟨#[52]⟩, .string ⟨#[]⟩, .string ⟨#[]⟩, .string ⟨#[]⟩, .string ⟨#[]⟩, .int .i64 6], .agg #[.int .i64 6, .string ⟨#[]⟩, .string ⟨#[]⟩, .string ⟨#[98]⟩, .string ⟨#[]⟩, .string ⟨#[]⟩, .string ⟨#[]⟩, .int .i64 7]] w fun e w' => e = .returned (.bool true) ∧ Below w.heap.size w w' :=
  (free_w mP mS w (by unfold SizeM; decide) (by unfold SizeM; decide)).mono fun e w' ⟨h1, h2⟩ => ⟨by rw [h1, show freeB mP mS = true from by decide +kernel], h2.below (Nat.le_refl _)⟩
theorem sc_free2 (w : World) : Calls Tryz.prog 74 #[.agg #[.int .i64 1, .string ⟨#[97, 47, 122]⟩, .string ⟨#[52]⟩, .string ⟨#[]⟩, .string ⟨#[]⟩, .string ⟨#[]⟩, .string ⟨#[]⟩, .int .i64 6], .agg #[.int .i64 4, .string ⟨#[]⟩, .string ⟨#[]⟩, .string ⟨#[]⟩, .string ⟨#[]⟩, .string ⟨#[97, 47]⟩, .string ⟨#[98, 47]⟩, .int .i64 0]] w fun e w' => e = .returned (.bool false) ∧ Below w.heap.size w w' :=
  (free_w mP mV w (by unfold SizeM; decide) (by unfold SizeM; decide)).mono fun e w' ⟨h1, h2⟩ => ⟨by rw [h1, show freeB mP mV = false from by decide +kernel], h2.below (Nat.le_refl _)⟩
theorem eql_q (w : World) : (binOp .eql 47 (.agg #[.int .i64 2, .string ⟨#[107]⟩, .string ⟨#[]⟩, .string ⟨#[]⟩, .string ⟨#[]⟩, .string ⟨#[]⟩, .string ⟨#[]⟩, .int .i64 0]) (.agg #[.int .i64 2, .string ⟨#[107]⟩, .string ⟨#[]⟩, .string ⟨#[]⟩, .string ⟨#[]⟩, .string ⟨#[]⟩, .string ⟨#[]⟩, .int .i64 0])).run Tryz.prog w = .ok (.bool true) w := (eql_msg mQ mQ w).trans (by simp)
set_option maxRecDepth 100000 in
set_option maxHeartbeats 2000000 in
theorem sample_w (w : World) : Calls Tryz.prog 72 #[] w fun e w' => e = .returned (.slice (some ⟨w.heap.size, 0, none⟩) 3 3) ∧ w' = w.alloc (.cells #[.string ⟨#[97, 47, 120]⟩, .string ⟨#[49]⟩, .int .i64 5, .string ⟨#[97, 47, 121]⟩, .string ⟨#[50]⟩, .int .i64 5, .string ⟨#[98, 47, 120]⟩, .string ⟨#[51]⟩, .int .i64 5] 91) := by
  go_enter Tryz.func72, Tryz.ntmps72
  go_wp2
  go_ret
  exact ⟨rfl, rfl⟩
theorem SanSt.start (w : World) : SanSt w (w.heap.size) (w.heap.size + 1) (w.heap.size + 1 + 1) (w.heap.size + 1 + 1 + 1) (w.heap.size + 1 + 1 + 1 + 1) (w.heap.size + 1 + 1 + 1 + 1 + 1) (w.heap.size + 1 + 1 + 1 + 1 + 1 + 1) ((((((((w).alloc (.cells #[.string ⟨#[97, 47, 120]⟩, .string ⟨#[49]⟩, .int .i64 5, .string ⟨#[97, 47, 121]⟩, .string ⟨#[50]⟩, .int .i64 5, .string ⟨#[98, 47, 120]⟩, .string ⟨#[51]⟩, .int .i64 5] 91)).alloc (.cells #[.int .i64 1, .string ⟨#[97, 47, 122]⟩, .string ⟨#[52]⟩, .string ⟨#[]⟩, .string ⟨#[]⟩, .string ⟨#[]⟩, .string ⟨#[]⟩, .int .i64 6] 47)).alloc (.cells #[.int .i64 3, .string ⟨#[]⟩, .string ⟨#[]⟩, .string ⟨#[97, 47]⟩, .string ⟨#[97, 47, 121]⟩, .string ⟨#[]⟩, .string ⟨#[]⟩, .int .i64 0] 47)).alloc (.cells #[.int .i64 4, .string ⟨#[]⟩, .string ⟨#[]⟩, .string ⟨#[]⟩, .string ⟨#[]⟩, .string ⟨#[97, 47]⟩, .string ⟨#[98, 47]⟩, .int .i64 0] 47)).alloc (.cells #[.int .i64 5, .string ⟨#[]⟩, .string ⟨#[]⟩, .string ⟨#[]⟩, .string ⟨#[]⟩, .string ⟨#[97, 47]⟩, .string ⟨#[98, 47]⟩, .int .i64 0] 47)).alloc (.cells #[.int .i64 6, .string ⟨#[]⟩, .string ⟨#[]⟩, .string ⟨#[98]⟩, .string ⟨#[]⟩, .string ⟨#[]⟩, .string ⟨#[]⟩, .int .i64 7] 47)).alloc (.cells #[.string ⟨#[98, 47, 120]⟩, .string ⟨#[49]⟩, .int .i64 5, .string ⟨#[98, 47, 121]⟩, .string ⟨#[50]⟩, .int .i64 5] 91)) where
  t := ((((((Blk.new _ _ _).alloc _).alloc _).alloc _).alloc _).alloc _).alloc _
  p := (((((Blk.new' _ _ _ (by simp)).alloc _).alloc _).alloc _).alloc _).alloc _
  d := ((((Blk.new' _ _ _ (by simp)).alloc _).alloc _).alloc _).alloc _
  v := (((Blk.new' _ _ _ (by simp)).alloc _).alloc _).alloc _
  c := ((Blk.new' _ _ _ (by simp)).alloc _).alloc _
  s := (Blk.new' _ _ _ (by simp)).alloc _
  m := Blk.new' _ _ _ (by simp)
  g := ((((((below_box _).alloc (by simp) _).alloc (by simp; omega) _).alloc (by simp; omega) _).alloc (by simp; omega) _).alloc (by simp; omega) _).alloc (by simp; omega) _
theorem sc_prefa (w : World) : Calls Tryz.prog 49 #[.string ⟨#[97, 47]⟩] w fun e w' => e = .returned (.agg #[.string ⟨#[97, 47]⟩, .string ⟨#[97, 48]⟩]) ∧ Below w.heap.size w w' :=
  (rprefix_w [97, 47] w (by decide)).mono fun e w' ⟨h1, h2⟩ => ⟨h1, h2.below (Nat.le_refl _)⟩
theorem sc_prefb (w : World) : Calls Tryz.prog 49 #[.string ⟨#[98, 47]⟩] w fun e w' => e = .returned (.agg #[.string ⟨#[98, 47]⟩, .string ⟨#[98, 48]⟩]) ∧ Below w.heap.size w w' :=
  (rprefix_w [98, 47] w (by decide)).mono fun e w' ⟨h1, h2⟩ => ⟨h1, h2.below (Nat.le_refl _)⟩
def mB : Ms := ⟨1, [107], [118], [], [], [], [], 258⟩
theorem sc_bytes1 (w : World) : Calls Tryz.prog 37 #[.agg #[.int .i64 2, .string ⟨#[107]⟩, .string ⟨#[]⟩, .string ⟨#[]⟩, .string ⟨#[]⟩, .string ⟨#[]⟩, .string ⟨#[]⟩, .int .i64 0]] w fun e w' => ∃ v', e = .returned v' ∧ IsBytes w' v' [2, 0, 1, 107] ∧ Below w.heap.size w w' :=
  (bytes_w mQ w).mono fun e w' ⟨v', h1, h2, h3⟩ => ⟨v', h1, by rw [show bytesM mQ = [2, 0, 1, 107] from by decide +kernel] at h2; exact h2.bytes, h3⟩
theorem sc_bytes2 (w : World) : Calls Tryz.prog 37 #[.agg #[.int .i64 1, .string ⟨#[107]⟩, .string ⟨#[118]⟩, .string ⟨#[]⟩, .string ⟨#[]⟩, .string ⟨#[]⟩, .string ⟨#[]⟩, .int .i64 258]] w fun e w' => ∃ v', e = .returned v' ∧ IsBytes w' v' [1, 0, 1, 107, 0, 1, 118, 0, 0, 1, 2] ∧ Below w.heap.size w w' :=
  (bytes_w mB w).mono fun e w' ⟨v', h1, h2, h3⟩ => ⟨v', h1, by rw [show bytesM mB = [1, 0, 1, 107, 0, 1, 118, 0, 0, 1, 2] from by decide +kernel] at h2; exact h2.bytes, h3⟩
theorem new_b1 {n : Nat} (W : World) (hn : n = W.heap.size) : IsBytes (W.alloc (.cells #[.int .u8 2, .int .u8 0, .int .u8 1, .int .u8 107] 5)) (.slice (some ⟨n, 0, none⟩) 4 4) [2, 0, 1, 107] := new_bytes [2, 0, 1, 107] 5 hn (by decide)
theorem new_b2 {n : Nat} (W : World) (hn : n = W.heap.size) : IsBytes (W.alloc (.cells #[.int .u8 1, .int .u8 0, .int .u8 1, .int .u8 107, .int .u8 0, .int .u8 1, .int .u8 118, .int .u8 0, .int .u8 0, .int .u8 1, .int .u8 2] 5)) (.slice (some ⟨n, 0, none⟩) 11 11) [1, 0, 1, 107, 0, 1, 118, 0, 0, 1, 2] := new_bytes [1, 0, 1, 107, 0, 1, 118, 0, 0, 1, 2] 5 hn (by decide)
theorem new_b3 {n : Nat} (W : World) (hn : n = W.heap.size) : IsBytes (W.alloc (.cells #[.int .u8 2, .int .u8 0, .int .u8 1, .int .u8 107, .int .u8 9] 5)) (.slice (some ⟨n, 0, none⟩) 5 5) [2, 0, 1, 107, 9] := new_bytes [2, 0, 1, 107, 9] 5 hn (by decide)
theorem new_b4 {n : Nat} (W : World) (hn : n = W.heap.size) : IsBytes (W.alloc (.cells #[.int .u8 2, .int .u8 0, .int .u8 2, .int .u8 107] 5)) (.slice (some ⟨n, 0, none⟩) 4 4) [2, 0, 2, 107] := new_bytes [2, 0, 2, 107] 5 hn (by decide)
theorem sc_samebytes (l : Bs) {v0 v1 : Value} {w : World} (h0 : IsBytes w v0 l) (h1 : IsBytes w v1 l) : Calls Tryz.prog 36 #[v0, v1] w fun e w' => e = .returned (.bool true) ∧ w = w' :=
  (samebytes_w v0 v1 l l w h0 h1).mono fun e w' ⟨h2, h3⟩ => ⟨by rw [h2]; simp, h3⟩
theorem sc_parse3 {v : Value} {w : World} (h : IsBytes w v [2, 0, 1, 107, 9]) : Calls Tryz.prog 50 #[v] w fun e w' => e = .returned (.tuple #[.agg #[.int .i64 2, .string ⟨#[107]⟩, .string ⟨#[]⟩, .string ⟨#[]⟩, .string ⟨#[]⟩, .string ⟨#[]⟩, .string ⟨#[]⟩, .int .i64 0], .int .i64 4, .int .i64 0]) ∧ Below w.heap.size w w' :=
  (parse_w v _ w h).mono fun e w' ⟨h1, h2⟩ => ⟨by rw [h1]; unfold parseV; rw [show parseS [2, 0, 1, 107, 9] = some (mQ, 4) from by decide +kernel]; rfl, h2⟩
theorem sc_parse4 {v : Value} {w : World} (h : IsBytes w v [2, 0, 2, 107]) : Calls Tryz.prog 50 #[v] w fun e w' => e = .returned (.tuple #[.agg #[.int .i64 0, .string ⟨#[]⟩, .string ⟨#[]⟩, .string ⟨#[]⟩, .string ⟨#[]⟩, .string ⟨#[]⟩, .string ⟨#[]⟩, .int .i64 0], .int .i64 0, .int .i64 3]) ∧ Below w.heap.size w w' :=
  (parse_w v _ w h).mono fun e w' ⟨h1, h2⟩ => ⟨by rw [h1]; unfold parseV; rw [show parseS [2, 0, 2, 107] = none from by decide +kernel]; rfl, h2⟩
theorem IsBytes.alloc {w : World} {v : Value} {l : Bs} (h : IsBytes w v l) (o : Obj) : IsBytes (w.alloc o) v l := h.below (below_box _)
set_option maxRecDepth 1000000 in
set_option maxHeartbeats 8000000 in
theorem sanity_w (w : World) : Calls Tryz.prog 33 #[] w fun e w' => e = .returned (.bool true) ∧ Below w.heap.size w w' := by
  obtain ⟨wa, hwa⟩ : ∃ wa, wa = (((((((w).alloc (.cells #[.string ⟨#[97, 47, 120]⟩, .string ⟨#[49]⟩, .int .i64 5, .string ⟨#[97, 47, 121]⟩, .string ⟨#[50]⟩, .int .i64 5, .string ⟨#[98, 47, 120]⟩, .string ⟨#[51]⟩, .int .i64 5] 91)).alloc (.cells #[.int .i64 1, .string ⟨#[97, 47, 122]⟩, .string ⟨#[52]⟩, .string ⟨#[]⟩, .string ⟨#[]⟩, .string ⟨#[]⟩, .string ⟨#[]⟩, .int .i64 6] 47)).alloc (.cells #[.int .i64 3, .string ⟨#[]⟩, .string ⟨#[]⟩, .string ⟨#[97, 47]⟩, .string ⟨#[97, 47, 121]⟩, .string ⟨#[]⟩, .string ⟨#[]⟩, .int .i64 0] 47)).alloc (.cells #[.int .i64 4, .string ⟨#[]⟩, .string ⟨#[]⟩, .string ⟨#[]⟩, .string ⟨#[]⟩, .string ⟨#[97, 47]⟩, .string ⟨#[98, 47]⟩, .int .i64 0] 47)).alloc (.cells #[.int .i64 5, .string ⟨#[]⟩, .string ⟨#[]⟩, .string ⟨#[]⟩, .string ⟨#[]⟩, .string ⟨#[97, 47]⟩, .string ⟨#[98, 47]⟩, .int .i64 0] 47)).alloc (.cells #[.int .i64 6, .string ⟨#[]⟩, .string ⟨#[]⟩, .string ⟨#[98]⟩, .string ⟨#[]⟩, .string ⟨#[]⟩, .string ⟨#[]⟩, .int .i64 7] 47)).alloc (.cells #[.string ⟨#[98, 47, 120]⟩, .string ⟨#[49]⟩, .int .i64 5, .string ⟨#[98, 47, 121]⟩, .string ⟨#[50]⟩, .int .i64 5] 91) := ⟨_, rfl⟩
  have HS : Hid (SanSt w (w.heap.size) (w.heap.size + 1) (w.heap.size + 1 + 1) (w.heap.size + 1 + 1 + 1) (w.heap.size + 1 + 1 + 1 + 1) (w.heap.size + 1 + 1 + 1 + 1 + 1) (w.heap.size + 1 + 1 + 1 + 1 + 1 + 1) wa) := Lib.hid (by rw [hwa]; exact SanSt.start w)
  go_enter Tryz.func33, Tryz.ntmps33
  go_wp2_with fail
  refine (sample_w w).mono ?_
  rintro e w1 ⟨rfl, rfl⟩
  go_upto_region 8 with fail
  rw [← hwa]
  clear hwa
  generalize w.heap.size + 1 + 1 + 1 + 1 + 1 + 1 = n6 at *
  generalize w.heap.size + 1 + 1 + 1 + 1 + 1 = n5 at *
  generalize w.heap.size + 1 + 1 + 1 + 1 = n4 at *
  generalize w.heap.size + 1 + 1 + 1 = n3 at *
  generalize w.heap.size + 1 + 1 = n2 at *
  generalize w.heap.size + 1 = n1 at *
  go_cut [8] (fun s8 wx => s8 = .bool true ∧ Hid (SanSt w w.heap.size n1 n2 n3 n4 n5 n6 wx))
  case first =>
    refine reg8_w w wa w.heap.size n1 n2 n3 n4 n5 n6 HS.out _ _ _ _ _ _ _ _ _ _ _ _ _ _ _ _ _ _ _ _ _ _ _ _ _ _ _ _ _ _ _ _ _ _ _ _ _ _ _ _ _ _ _ _ _ _ _ _ _ _ _ _ _ _ _ _ _ _ _ _ _ _ _ _ _ _ _ _ _ _ _ _ _ _ _ _ _ _ _ _ _ _ _ _ _ _ _ _ _ _ _ _ _ _ _ _ _ _ _ _ _ _ _ _ _ _ _ _ _ _ _ _ _ _ _ _ _ _ _ _ _ _ _ _ _ _ _ _ _ _ _ _ _ _ _ _ _ _ _ _ _ _ _ _ _ _ _ _ _ _ _ _ _ _ _ _ _ _ _ _ _ _ _ _ _ _ _ _ _ _ _ _ _ _ _ _ _ _ _ _ _ _ _ _ _ _ _ _ _ _ _ _ (fun t30 t31 t32 t33 t34 t35 t36 t37 t38 t39 t40 t41 t42 t43 t44 t45 t46 t47 t48 t49 t50 t51 t52 t53 t54 t55 t56 t57 t58 t59 t60 t61 t62 t63 t64 t65 t66 t67 t68 t69 t70 t71 t72 t73 t74 t75 t76 t77 t78 t79 t80 t81 t82 t83 wx hS => ?_)
    have HS4 := Lib.hid hS
    clear hS
    go_wp2_with fail
    go_meet
    exact ⟨rfl, HS4⟩
  case rest =>
    obtain ⟨rfl, HS8⟩ := hcut
    clear HS
    go_wp2_with fail
    refine (sc_prefa _).mono ?_
    rintro e w2 ⟨rfl, hb2⟩
    have HS9 := Lib.hid (HS8.out.below hb2)
    clear hb2 HS8
    go_wp2_with fail
    refine (sc_prefb _).mono ?_
    rintro e w3 ⟨rfl, hb3⟩
    have HS10 := Lib.hid (HS9.out.below hb3)
    clear hb3 HS9
    go_upto_region 10 with fail
    have hX : San2 w w.heap.size n1 n2 n3 n4 n5 n6 w3.heap.size (w3.heap.size + 1) ((w3.alloc (.cells #[.string ⟨#[97, 47]⟩, .string ⟨#[97, 48]⟩] 45)).alloc (.cells #[.string ⟨#[98, 47]⟩, .string ⟨#[98, 48]⟩] 45)) := ⟨(HS10.out.alloc _).alloc _, (Blk.new _ _ _).alloc _, Blk.new' _ _ _ (by simp)⟩
    have HX := Lib.hid hX
    clear hX HS10
    generalize (w3.alloc (.cells #[.string ⟨#[97, 47]⟩, .string ⟨#[97, 48]⟩] 45)).alloc (.cells #[.string ⟨#[98, 47]⟩, .string ⟨#[98, 48]⟩] 45) = wz at *
    generalize w3.heap.size + 1 = k10 at *
    generalize w3.heap.size = k9 at *
    go_cut [11] (fun s11 wx => s11 = .bool true ∧ Hid (SanSt w w.heap.size n1 n2 n3 n4 n5 n6 wx))
    case first =>
      refine reg10_w w w.heap.size n1 n2 n3 n4 n5 n6 k9 k10 wz HX.out _ _ _ _ _ _ _ _ _ _ _ _ _ _ _ _ _ _ _ _ _ _ _ _ _ _ _ _ _ _ _ _ _ _ _ _ _ _ _ _ _ _ _ _ _ _ _ _ _ _ _ _ _ _ _ _ _ _ _ _ _ _ _ _ _ _ _ _ _ _ _ _ _ _ _ _ _ _ _ _ _ _ _ _ _ _ _ _ _ _ _ _ _ _ _ _ _ _ _ _ _ _ _ _ _ _ _ _ _ _ _ _ _ _ _ _ _ _ _ _ _ _ _ _ _ _ _ _ _ _ _ _ _ _ _ _ _ _ _ _ _ _ _ _ _ _ _ _ _ _ _ _ _ _ _ _ _ _ _ _ _ _ _ _ _ _ _ _ _ _ _ _ _ _ _ _ _ _ _ _ _ _ _ _ _ _ _ _ _ _ _ _ (fun u86 u87 u88 u89 u90 u91 u92 u93 u94 u95 u96 u97 u98 u99 u100 u101 u102 u103 u104 u105 u106 u107 u108 u109 u110 u111 u112 u113 u114 u115 u116 u117 u118 u119 u120 u121 u122 u123 u124 u125 u126 u127 u128 u129 u130 u131 wx hS => ?_)
      have HS4 := Lib.hid hS.s
      clear hS
      go_wp2_with fail
      go_meet
      exact ⟨rfl, HS4⟩
    case rest =>
      obtain ⟨rfl, HS11⟩ := hcut
      clear HX
      go_wp2_with fail
      refine (sc_bytes1 _).mono ?_
      rintro e w4 ⟨v4, rfl, hq4, hb4⟩
      have HS12 := Lib.hid (HS11.out.below hb4)
      have HQ4 := Lib.hid hq4
      clear hb4 hq4 HS11
      go_wp2_with fail
      refine (sc_samebytes [2, 0, 1, 107] (HQ4.out.alloc _) (new_b1 _ rfl)).mono ?_
      rintro e w5 ⟨rfl, rfl⟩
      have HS13 := Lib.hid (HS12.out.alloc (.cells #[.int .u8 2, .int .u8 0, .int .u8 1, .int .u8 107] 5))
      clear HS12 HQ4
      go_wp2_with fail
      refine (sc_bytes2 _).mono ?_
      rintro e w6 ⟨v6, rfl, hq6, hb6⟩
      have HS14 := Lib.hid (HS13.out.below hb6)
      have HQ6 := Lib.hid hq6
      clear hb6 hq6 HS13
      go_wp2_with fail
      refine (sc_samebytes [1, 0, 1, 107, 0, 1, 118, 0, 0, 1, 2] (HQ6.out.alloc _) (new_b2 _ rfl)).mono ?_
      rintro e w7 ⟨rfl, rfl⟩
      have HS15 := Lib.hid (HS14.out.alloc (.cells #[.int .u8 1, .int .u8 0, .int .u8 1, .int .u8 107, .int .u8 0, .int .u8 1, .int .u8 118, .int .u8 0, .int .u8 0, .int .u8 1, .int .u8 2] 5))
      clear HS14 HQ6
      go_wp2_with fail
      refine (sc_parse3 (new_b3 _ (by simp))).mono ?_
      rintro e w8 ⟨rfl, hb8⟩
      have HS16 := Lib.hid ((HS15.out.alloc (.cells #[.int .u8 2, .int .u8 0, .int .u8 1, .int .u8 107, .int .u8 9] 5)).below hb8)
      clear hb8 HS15
      go_wp2_with fail
      have hY : San3 w w.heap.size n1 n2 n3 n4 n5 n6 w8.heap.size (w8.alloc (.cells #[.int .i64 2, .string ⟨#[107]⟩, .string ⟨#[]⟩, .string ⟨#[]⟩, .string ⟨#[]⟩, .string ⟨#[]⟩, .string ⟨#[]⟩, .int .i64 0] 47)) := ⟨HS16.out.alloc _, Blk.new _ _ _⟩
      have HY := Lib.hid hY
      clear hY HS16
      refine (sc_parse4 (new_b4 _ (by simp))).mono ?_
      rintro e w9 ⟨rfl, hb9⟩
      have HY2 := Lib.hid ((HY.out.alloc (.cells #[.int .u8 2, .int .u8 0, .int .u8 2, .int .u8 107] 5)).below hb9)
      clear hb9 HY
      generalize w8.heap.size = k13 at *
      go_upto_region 14 with fail
      have HY3 := Lib.hid (HY2.out.alloc (.cells #[.int .i64 0, .string ⟨#[]⟩, .string ⟨#[]⟩, .string ⟨#[]⟩, .string ⟨#[]⟩, .string ⟨#[]⟩, .string ⟨#[]⟩, .int .i64 0] 47))
      clear HY2
      generalize w9.alloc (.cells #[.int .i64 0, .string ⟨#[]⟩, .string ⟨#[]⟩, .string ⟨#[]⟩, .string ⟨#[]⟩, .string ⟨#[]⟩, .string ⟨#[]⟩, .int .i64 0] 47) = wy at *
      obtain ⟨p0, p1, p2, p3, p4, p5, p6, p7⟩ := HY3.out.s.cp
      obtain ⟨v0, v1, v2, v3, v4', v5, v6', v7⟩ := HY3.out.s.cv
      obtain ⟨s0, s1, s2, s3, s4, s5, s6, s7⟩ := HY3.out.s.cs
      obtain ⟨q0, q1, q2, q3, q4, q5, q6, q7⟩ := HY3.out.cq
      have heq := fun wr : World => eql_q wr
      go_wp2_with fail
      refine (sc_valid1 _).mono ?_
      rintro e w10 ⟨rfl, hb10⟩
      have HY4 := Lib.hid (HY3.out.below hb10)
      clear hb10
      clear p0 p1 p2 p3 p4 p5 p6 p7 v0 v1 v2 v3 v4' v5 v6' v7 s0 s1 s2 s3 s4 s5 s6 s7 q0 q1 q2 q3 q4 q5 q6 q7
      obtain ⟨p0, p1, p2, p3, p4, p5, p6, p7⟩ := HY4.out.s.cp
      obtain ⟨v0, v1, v2, v3, v4', v5, v6', v7⟩ := HY4.out.s.cv
      obtain ⟨s0, s1, s2, s3, s4, s5, s6, s7⟩ := HY4.out.s.cs
      obtain ⟨q0, q1, q2, q3, q4, q5, q6, q7⟩ := HY4.out.cq
      go_wp2_with fail
      refine (sc_valid2 _).mono ?_
      rintro e w11 ⟨rfl, hb11⟩
      have HY5 := Lib.hid (HY4.out.below hb11)
      clear hb11
      clear p0 p1 p2 p3 p4 p5 p6 p7 v0 v1 v2 v3 v4' v5 v6' v7 s0 s1 s2 s3 s4 s5 s6 s7 q0 q1 q2 q3 q4 q5 q6 q7
      obtain ⟨p0, p1, p2, p3, p4, p5, p6, p7⟩ := HY5.out.s.cp
      obtain ⟨v0, v1, v2, v3, v4', v5, v6', v7⟩ := HY5.out.s.cv
      obtain ⟨s0, s1, s2, s3, s4, s5, s6, s7⟩ := HY5.out.s.cs
      obtain ⟨q0, q1, q2, q3, q4, q5, q6, q7⟩ := HY5.out.cq
      go_wp2_with fail
      refine (sc_free1 _).mono ?_
      rintro e w12 ⟨rfl, hb12⟩
      have HY6 := Lib.hid (HY5.out.below hb12)
      clear hb12
      clear p0 p1 p2 p3 p4 p5 p6 p7 v0 v1 v2 v3 v4' v5 v6' v7 s0 s1 s2 s3 s4 s5 s6 s7 q0 q1 q2 q3 q4 q5 q6 q7
      obtain ⟨p0, p1, p2, p3, p4, p5, p6, p7⟩ := HY6.out.s.cp
      obtain ⟨v0, v1, v2, v3, v4', v5, v6', v7⟩ := HY6.out.s.cv
      obtain ⟨s0, s1, s2, s3, s4, s5, s6, s7⟩ := HY6.out.s.cs
      obtain ⟨q0, q1, q2, q3, q4, q5, q6, q7⟩ := HY6.out.cq
      go_wp2_with fail
      refine (sc_free2 _).mono ?_
      rintro e w13 ⟨rfl, hb13⟩
      have HY7 := Lib.hid (HY6.out.below hb13)
      clear hb13
      clear p0 p1 p2 p3 p4 p5 p6 p7 v0 v1 v2 v3 v4' v5 v6' v7 s0 s1 s2 s3 s4 s5 s6 s7 q0 q1 q2 q3 q4 q5 q6 q7
      obtain ⟨p0, p1, p2, p3, p4, p5, p6, p7⟩ := HY7.out.s.cp
      obtain ⟨v0, v1, v2, v3, v4', v5, v6', v7⟩ := HY7.out.s.cv
      obtain ⟨s0, s1, s2, s3, s4, s5, s6, s7⟩ := HY7.out.s.cs
      obtain ⟨q0, q1, q2, q3, q4, q5, q6, q7⟩ := HY7.out.cq
      have Hg := Lib.hid HY7.out.s.g
      go_wp2
      go_ret
      exact ⟨rfl, Hg.out⟩

end Go.Proofs.YtaafckefeejjpaaGreat
