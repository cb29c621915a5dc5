/-
  The walk of the law FoldCovers.
-/
import Derived.Test.YtpppkjcbheooeaaGreatGS
import Derived.Test.YtpppkjcbheooeaaGreatGP
namespace Go.Proofs.YtpppkjcbheooeaaGreat
open Go.RowKit Go.Sort
set_option linter.unusedVariables false

def mAll : Ms := ⟨3, [], [], [], [], [], [], 0⟩
/-- Lists, and messages in their boxes. -/
structure Sy (w : World) (M : List (Value × List Ms)) (B : List (Nat × Ms)) (wx : World) : Prop where
  g : Below w.heap.size w wx
  m : ∀ x ∈ M, IsMsgs wx x.1 x.2
  b : ∀ x ∈ B, Blk wx x.1 25 (encM x.2)
section
variable {w wx wy : World} {M : List (Value × List Ms)} {B : List (Nat × Ms)}
theorem Sy.below (h : Sy w M B wx) (hb : Below wx.heap.size wx wy) : Sy w M B wy := ⟨h.g.trans (hb.mono h.g.size), fun x hx => (h.m x hx).below hb, fun x hx => (h.b x hx).below hb (h.b x hx).lt⟩
theorem Sy.alloc (h : Sy w M B wx) (o : Obj) : Sy w M B (wx.alloc o) := h.below (below_box _)
theorem Sy.drew (h : Sy w M B wx) : Sy w M B wx.drew := h.below (below_drewN wx 1)
theorem Sy.aldrew (h : Sy w M B wx.drew) (o : Obj) : Sy w M B (wx.alloc o).drew := Sy.alloc h o
theorem Sy.addM (h : Sy w M B wx) {v : Value} {l : List Ms} (hp : IsMsgs wx v l) : Sy w ((v, l) :: M) B wx := ⟨h.g, fun x hx => by
  rcases List.mem_cons.1 hx with rfl | hx
  · exact hp
  · exact h.m x hx, h.b⟩
theorem Sy.addB (h : Sy w M B wx) {n : Nat} {x : Ms} (hp : Blk wx n 25 (encM x)) : Sy w M ((n, x) :: B) wx := ⟨h.g, h.m, fun y hy => by
  rcases List.mem_cons.1 hy with rfl | hy
  · exact hp
  · exact h.b y hy⟩
theorem Sy.box (h : Sy w M B wx) {n : Nat} {x : Ms} (hm : (n, x) ∈ B) : Blk wx n 25 (encM x) := h.b _ hm
theorem Sy.cells (h : Sy w M B wx) {n : Nat} {x : Ms} (hm : (n, x) ∈ B) : wx.cell? ⟨n, 0, none⟩ = some (.int .i64 x.kind) ∧ wx.cell? ⟨n, 1, none⟩ = some (.string (Str x.key)) ∧ wx.cell? ⟨n, 2, none⟩ = some (.string (Str x.val)) ∧ wx.cell? ⟨n, 3, none⟩ = some (.string (Str x.lo)) ∧ wx.cell? ⟨n, 4, none⟩ = some (.string (Str x.hi)) ∧ wx.cell? ⟨n, 5, none⟩ = some (.string (Str x.src)) ∧ wx.cell? ⟨n, 6, none⟩ = some (.string (Str x.dst)) ∧ wx.cell? ⟨n, 7, none⟩ = some (.int .i64 x.n) :=
  ⟨(h.box hm).c0 0 _ rfl, (h.box hm).c0 1 _ rfl, (h.box hm).c0 2 _ rfl, (h.box hm).c0 3 _ rfl, (h.box hm).c0 4 _ rfl, (h.box hm).c0 5 _ rfl, (h.box hm).c0 6 _ rfl, (h.box hm).c0 7 _ rfl⟩
theorem msgs_at {g o c : Nat} {l : List Ms} (h : IsMsgs wx (.slice (some ⟨g, o, none⟩) l.length c) l) (i : Nat) (hi : i < l.length) : MAt wx g (o + i * 8) l[i] := by
  obtain ⟨b, off, cap, a, e, -, -, -, hc⟩ := h.form
  cases e
  obtain ⟨e, hm⟩ := hc i hi
  cases e
  exact hm
def RedOut (w : World) (M : List (Value × List Ms)) (B : List (Nat × Ms)) (wx : World) (R : List Ms) (n : Nat) (e : Ending) (w' : World) : Prop := ∃ p c, e = .returned (.slice p n c) ∧ IsMsgs w' (.slice p n c) R ∧ Below wx.heap.size wx w' ∧ Sy w M B w'
theorem sy_reduce (h : Sy w M B wx) {v : Value} {ms R : List Ms} {n : Nat} (hR : reduceS ms = R) (hn : R.length = n) (hv : IsMsgs wx v ms) (hz : ∀ m ∈ ms, Ok m) (hl : ms.length ≤ 50) : Calls Tryz.prog 27 #[v] wx (RedOut w M B wx R n) := by
  subst hR hn
  refine (reduce_w v ms wx hv hz hl).mono fun e w' ⟨v', he, h1, h2⟩ => ?_
  obtain ⟨p, c, rfl, -⟩ := id h1
  exact ⟨p, c, he, h1, h2, h.below h2⟩
theorem sy_same (h : Sy w M B wx) {v u : Value} {a b : List Ms} (e : a = b) (hv : IsMsgs wx v a) (hu : IsMsgs wx u b) : Calls Tryz.prog 25 #[v, u] wx fun e w' => e = .returned (.bool true) ∧ Sy w M B w' := by
  subst e
  exact (fsame_w v u a a wx hv hu).mono fun _ _ ⟨h1, n, h2⟩ => ⟨by rw [h1]; simp, by rw [h2]; exact h.below (below_drewN wx n)⟩
theorem sy_covered (h : Sy w M B wx) (m o : Ms) (hz : SizeM m) (hk : OneToSix m) {q : Bool} (hq : covB m o = q) : Calls Tryz.prog 36 #[msgV m, msgV o] wx fun e w' => e = .returned (.bool q) ∧ Sy w M B w' := by
  subst hq
  exact (covered_w m o wx hz hk).mono fun _ _ ⟨h1, h2⟩ => ⟨h1, h.below h2⟩
end
theorem new1 {n : Nat} (W : World) (m : Ms) (hn : n = W.heap.size) : IsMsgs (W.alloc (.cells #[.int .i64 m.kind, .string (Str m.key), .string (Str m.val), .string (Str m.lo), .string (Str m.hi), .string (Str m.src), .string (Str m.dst), .int .i64 m.n] 25)) (.slice (some ⟨n, 0, none⟩) 1 1) [m] := by
  subst hn
  refine ⟨_, 1, rfl, Nat.le_refl _, by unfold maxLen; omega, fun _ => ⟨_, 0, rfl, by simp, fun i hi => ?_⟩⟩
  unfold MAt
  match i, hi with
  | 0, _ => simp [World.cell?_alloc_new]
theorem new2 {n : Nat} (W : World) (m o : Ms) (hn : n = W.heap.size) : IsMsgs (W.alloc (.cells #[.int .i64 m.kind, .string (Str m.key), .string (Str m.val), .string (Str m.lo), .string (Str m.hi), .string (Str m.src), .string (Str m.dst), .int .i64 m.n,
    .int .i64 o.kind, .string (Str o.key), .string (Str o.val), .string (Str o.lo), .string (Str o.hi), .string (Str o.src), .string (Str o.dst), .int .i64 o.n] 25)) (.slice (some ⟨n, 0, none⟩) 2 2) [m, o] := by
  subst hn
  refine ⟨_, 2, rfl, Nat.le_refl _, by unfold maxLen; omega, fun _ => ⟨_, 0, rfl, by simp, fun i hi => ?_⟩⟩
  unfold MAt
  match i, hi with
  | 0, _ => simp [World.cell?_alloc_new]
  | 1, _ => simp [World.cell?_alloc_new]
theorem newAll {n : Nat} (W : World) (hn : n = W.heap.size) : IsMsgs (W.alloc (.cells #[.int .i64 3, .string ⟨#[]⟩, .string ⟨#[]⟩, .string ⟨#[]⟩, .string ⟨#[]⟩, .string ⟨#[]⟩, .string ⟨#[]⟩, .int .i64 0] 25)) (.slice (some ⟨n, 0, none⟩) 1 1) [mAll] := new1 W mAll hn
theorem ims_al {w : World} {v : Value} {l : List Ms} (h : IsMsgs w v l) (o : Obj) : IsMsgs (w.alloc o) v l := h.below (below_box _)
theorem ims_dr {w : World} {v : Value} {l : List Ms} (h : IsMsgs w v l) : IsMsgs w.drew v l := h.below (below_drewN w 1)

set_option maxRecDepth 100000 in
set_option maxHeartbeats 8000000 in
theorem foldCovers_walk (w : World) (v0 : Value) (x0 : List R6) (h0 : IsR6s w v0 x0) (v1 : Value) (y : R6) (h1 : IsRaw6 w v1 y) :
    Calls Tryz.prog 10 #[v0, v1] w fun e w' => e = .returned (.bool true) ∧ Below w.heap.size w w' := by
  obtain ⟨rfl, hsx⟩ := h1
  have H0 := Lib.hid h0
  clear h0
  obtain ⟨ms, ems⟩ : ∃ r, r = listS x0 14 := ⟨_, rfl⟩
  obtain ⟨one, eone⟩ : ∃ r, r = madeX y := ⟨_, rfl⟩
  have hall : ∀ m ∈ ms, Ok m ∧ OneToSix m ∧ Few m := by rw [ems]; exact listS_all _ _
  have hml : ms.length ≤ 14 := by rw [ems]; exact listS_len _ _
  have hoo : Ok one := by rw [eone]; exact madeX_ok y
  have hok6 : OneToSix one := by rw [eone]; exact made_kinds _ _ _ _ _ _
  have hMade := Lib.hid (fun wx => made_w y.1 y.2.1 y.2.2.1 y.2.2.2.1 y.2.2.2.2.1 y.2.2.2.2.2 wx hsx)
  have hMk : Hid (madeM y.1 y.2.1 y.2.2.1 y.2.2.2.1 y.2.2.2.2.1 y.2.2.2.2.2 = one) := Lib.hid eone.symm
  rw [hMk.out] at hMade
  have HOK := Lib.hid (fun m hm => (hall m hm).1)
  have HALL := Lib.hid hall
  have HOO := Lib.hid hoo
  have H6 := Lib.hid hok6
  have HWR : Hid (WrM one) := Lib.hid (by
    have h1 : writesS one ≠ [] := by rcases hok6.cases with k | k | k | k | k | k <;> simp [writesS, k]
    exact ⟨(writesS one).head h1, List.head_mem h1, hoo.2 _ (List.head_mem h1)⟩)
  have HAL : Hid (Ok mAll) := Lib.hid (by decide)
  have HRD : Hid (reduceS (ms ++ [mAll]) = [mAll]) := Lib.hid (reduce_drop_all ms)
  have Ems := Lib.hid ems
  clear hall hoo hok6 ems eone hMk hsx
  obtain ⟨a, b, c, d, e, f⟩ := y
  dsimp only [rawA, raw6] at hMade ⊢
  go_enter Tryz.func10, Tryz.ntmps10
  go_wp2_with fail
  refine (Fx.fsanity_w _).mono ?_
  rintro e0 w0 ⟨rfl, hb0⟩
  have hR0 : Blk w0 w.heap.size 27 #[.int .u8 a, .int .u8 b, .int .u8 c, .int .u8 d, .int .u8 e, .int .u8 f] := (Blk.new w 27 _).below hb0 (by simp)
  have HR0 := Lib.hid hR0
  have HB0 : Hid (Below w.heap.size w w0) := Lib.hid ((below_box _).trans (hb0.mono (by simp)))
  clear hb0 hR0
  go_wp2_with fail
  refine (list_w v0 x0 14 w0 (H0.out.below HB0.out) (by omega)).mono ?_
  rintro e1 w1 ⟨vl, rfl, ho1, hb1⟩
  rw [← Ems.out] at ho1
  obtain ⟨pl, cl, rfl, hl1, hl2⟩ := own_formM ho1
  unfold maxLen at hl2
  have hX1 : Blk (w1.alloc (.cells (encM mAll) 25)) w.heap.size 27 #[.int .u8 a, .int .u8 b, .int .u8 c, .int .u8 d, .int .u8 e, .int .u8 f] := (HR0.out.below hb1 HR0.out.lt).alloc _
  have S1 : Hid (Sy w [(.slice pl ms.length cl, ms)] [(w1.heap.size, mAll)] (w1.alloc (.cells (encM mAll) 25))) := Lib.hid (by
    have s0 : Sy w [] [] w1 := ⟨HB0.out.trans (hb1.mono HB0.out.size), (fun x hx => by cases hx), (fun x hx => by cases hx)⟩
    exact ((s0.addM ho1.msgs).alloc _).addB (Blk.new _ _ _))
  clear ho1 hb1 HB0 HR0
  have r0 : (w1.alloc (.cells #[.int .i64 3, .string ⟨#[]⟩, .string ⟨#[]⟩, .string ⟨#[]⟩, .string ⟨#[]⟩, .string ⟨#[]⟩, .string ⟨#[]⟩, .int .i64 0] 25)).cell? ⟨w.heap.size, 0, none⟩ = some (.int .u8 a) := hX1.c0 0 _ rfl
  have r1 : (w1.alloc (.cells #[.int .i64 3, .string ⟨#[]⟩, .string ⟨#[]⟩, .string ⟨#[]⟩, .string ⟨#[]⟩, .string ⟨#[]⟩, .string ⟨#[]⟩, .int .i64 0] 25)).cell? ⟨w.heap.size, 1, none⟩ = some (.int .u8 b) := hX1.c0 1 _ rfl
  have r2 : (w1.alloc (.cells #[.int .i64 3, .string ⟨#[]⟩, .string ⟨#[]⟩, .string ⟨#[]⟩, .string ⟨#[]⟩, .string ⟨#[]⟩, .string ⟨#[]⟩, .int .i64 0] 25)).cell? ⟨w.heap.size, 2, none⟩ = some (.int .u8 c) := hX1.c0 2 _ rfl
  have r3 : (w1.alloc (.cells #[.int .i64 3, .string ⟨#[]⟩, .string ⟨#[]⟩, .string ⟨#[]⟩, .string ⟨#[]⟩, .string ⟨#[]⟩, .string ⟨#[]⟩, .int .i64 0] 25)).cell? ⟨w.heap.size, 3, none⟩ = some (.int .u8 d) := hX1.c0 3 _ rfl
  have r4 : (w1.alloc (.cells #[.int .i64 3, .string ⟨#[]⟩, .string ⟨#[]⟩, .string ⟨#[]⟩, .string ⟨#[]⟩, .string ⟨#[]⟩, .string ⟨#[]⟩, .int .i64 0] 25)).cell? ⟨w.heap.size, 4, none⟩ = some (.int .u8 e) := hX1.c0 4 _ rfl
  have r5 : (w1.alloc (.cells #[.int .i64 3, .string ⟨#[]⟩, .string ⟨#[]⟩, .string ⟨#[]⟩, .string ⟨#[]⟩, .string ⟨#[]⟩, .string ⟨#[]⟩, .int .i64 0] 25)).cell? ⟨w.heap.size, 5, none⟩ = some (.int .u8 f) := hX1.c0 5 _ rfl
  clear hX1
  go_wp2_with fail
  refine (hMade.out _).mono ?_
  rintro e2 w2 ⟨rfl, hb2⟩
  have S2 : Hid (Sy w [(.slice pl ms.length cl, ms)] [(w2.heap.size, one), (w1.heap.size, mAll)] (w2.alloc (.cells (encM one) 25))) := Lib.hid (((S1.out.below hb2).alloc _).addB (Blk.new _ _ _))
  clear hb2 S1 r0 r1 r2 r3 r4 r5 hMade
  obtain ⟨wa, hwa⟩ : ∃ wa, wa = w2.alloc (.cells (encM one) 25) := ⟨_, rfl⟩
  obtain ⟨n7, hn7⟩ : ∃ n, n = w1.heap.size := ⟨_, rfl⟩
  obtain ⟨n8, hn8⟩ : ∃ n, n = w2.heap.size := ⟨_, rfl⟩
  rw [← hwa, ← hn7, ← hn8] at S2
  have hE1 := Lib.hid (own_emptyMs wa wa.heap.size (Nat.le_refl _))
  go_upto_region 5 with fail
  rw [← hwa, ← hn7, ← hn8]
  clear hwa hn7 hn8
  have hE5 := Lib.hid (own_emptyMs wa wa.heap.size (Nat.le_refl _))
  go_upto_region 6 with (at_builtin; go_must (refine append_msgs rfl _ _ rfl wa.heap.size (.slice (some ⟨wa.heap.size, 0, none⟩) 0 0) [] rfl ?a15 (.slice pl ms.length cl) ms rfl ?a25 ?a35 ?a45 ?_; (case a15 => exact hE5.out); (case a25 => exact ims_al (S2.out.m (.slice pl ms.length cl, ms) (by simp)) _); (case a35 => simp; omega); (case a45 => simp); intro v5 w5 ho5 hb5; rw [List.nil_append] at ho5; obtain ⟨p5, c5, rfl, hx5, hy5⟩ := own_formM ho5))
  clear hE5
  have hbw5 : Below wa.heap.size wa w5 := (below_box _).trans (hb5.mono (by simp))
  have HO5 := Lib.hid ho5
  have HBW5 := Lib.hid hbw5
  clear ho5 hb5 hbw5 hx5 hy5
  have S5 := Lib.hid (S2.out.below HBW5.out)
  have d0 : w5.cell? ⟨n7, 0, none⟩ = some (.int .i64 3) := (Sy.box S5.out (n := n7) (x := mAll) (by simp)).c0 0 _ rfl
  have d1 : w5.cell? ⟨n7, 1, none⟩ = some (.string ⟨#[]⟩) := (Sy.box S5.out (n := n7) (x := mAll) (by simp)).c0 1 _ rfl
  have d2 : w5.cell? ⟨n7, 2, none⟩ = some (.string ⟨#[]⟩) := (Sy.box S5.out (n := n7) (x := mAll) (by simp)).c0 2 _ rfl
  have d3 : w5.cell? ⟨n7, 3, none⟩ = some (.string ⟨#[]⟩) := (Sy.box S5.out (n := n7) (x := mAll) (by simp)).c0 3 _ rfl
  have d4 : w5.cell? ⟨n7, 4, none⟩ = some (.string ⟨#[]⟩) := (Sy.box S5.out (n := n7) (x := mAll) (by simp)).c0 4 _ rfl
  have d5 : w5.cell? ⟨n7, 5, none⟩ = some (.string ⟨#[]⟩) := (Sy.box S5.out (n := n7) (x := mAll) (by simp)).c0 5 _ rfl
  have d6 : w5.cell? ⟨n7, 6, none⟩ = some (.string ⟨#[]⟩) := (Sy.box S5.out (n := n7) (x := mAll) (by simp)).c0 6 _ rfl
  have d7 : w5.cell? ⟨n7, 7, none⟩ = some (.int .i64 0) := (Sy.box S5.out (n := n7) (x := mAll) (by simp)).c0 7 _ rfl
  go_upto_region 7 with (at_builtin; go_must (refine append_msgs rfl _ _ rfl wa.heap.size (.slice p5 ms.length c5) ms rfl ?b15 (.slice (some ⟨w5.heap.size, 0, none⟩) 1 1) [mAll] rfl ?b25 ?b35 ?b45 ?_; (case b15 => exact HO5.out.below (below_box _)); (case b25 => exact newAll _ rfl); (case b35 => simp; omega); (case b45 => exact Nat.le_trans HBW5.out.size (by simp)); intro v5q w5q ho5q hb5q; obtain ⟨p5q, c5q, hv5q, hx5q, hy5q⟩ := own_formM ho5q; obtain ⟨n5q, hn5q⟩ : ∃ n, n = (ms ++ [mAll]).length := ⟨_, rfl⟩; rw [← hn5q] at hv5q; subst hv5q; clear hn5q hx5q hy5q))
  have HBQ5 : Hid (Below wa.heap.size wa w5q) := Lib.hid (HBW5.out.trans (((Below.refl wa.heap.size w5).alloc HBW5.out.size _).trans hb5q))
  have S5q := Lib.hid (S2.out.below HBQ5.out)
  have HM5q := Lib.hid ho5q.msgs
  clear HO5 HBW5 ho5q hb5q
  clear S2 S5 d0 d1 d2 d3 d4 d5 d6 d7
  have HZ5 : Hid (∀ m ∈ ms ++ [mAll], Ok m) := Lib.hid (fun m hm => (List.mem_append.1 hm).elim (HOK.out m) (fun h => by rw [List.mem_singleton.1 h]; exact HAL.out))
  have hlz5 : (ms ++ [mAll]).length ≤ 50 := by simp; omega
  have e0 := fun wr (h : Sy w [(.slice pl ms.length cl, ms)] [(n8, one), (n7, mAll)] wr) => (show wr.cell? ⟨n7, 0, none⟩ = some (.int .i64 3) from (Sy.box h (n := n7) (x := mAll) (by simp)).c0 0 _ rfl)
  have e1 := fun wr (h : Sy w [(.slice pl ms.length cl, ms)] [(n8, one), (n7, mAll)] wr) => (show wr.cell? ⟨n7, 1, none⟩ = some (.string ⟨#[]⟩) from (Sy.box h (n := n7) (x := mAll) (by simp)).c0 1 _ rfl)
  have e2 := fun wr (h : Sy w [(.slice pl ms.length cl, ms)] [(n8, one), (n7, mAll)] wr) => (show wr.cell? ⟨n7, 2, none⟩ = some (.string ⟨#[]⟩) from (Sy.box h (n := n7) (x := mAll) (by simp)).c0 2 _ rfl)
  have e3 := fun wr (h : Sy w [(.slice pl ms.length cl, ms)] [(n8, one), (n7, mAll)] wr) => (show wr.cell? ⟨n7, 3, none⟩ = some (.string ⟨#[]⟩) from (Sy.box h (n := n7) (x := mAll) (by simp)).c0 3 _ rfl)
  have e4 := fun wr (h : Sy w [(.slice pl ms.length cl, ms)] [(n8, one), (n7, mAll)] wr) => (show wr.cell? ⟨n7, 4, none⟩ = some (.string ⟨#[]⟩) from (Sy.box h (n := n7) (x := mAll) (by simp)).c0 4 _ rfl)
  have e5 := fun wr (h : Sy w [(.slice pl ms.length cl, ms)] [(n8, one), (n7, mAll)] wr) => (show wr.cell? ⟨n7, 5, none⟩ = some (.string ⟨#[]⟩) from (Sy.box h (n := n7) (x := mAll) (by simp)).c0 5 _ rfl)
  have e6 := fun wr (h : Sy w [(.slice pl ms.length cl, ms)] [(n8, one), (n7, mAll)] wr) => (show wr.cell? ⟨n7, 6, none⟩ = some (.string ⟨#[]⟩) from (Sy.box h (n := n7) (x := mAll) (by simp)).c0 6 _ rfl)
  have e7 := fun wr (h : Sy w [(.slice pl ms.length cl, ms)] [(n8, one), (n7, mAll)] wr) => (show wr.cell? ⟨n7, 7, none⟩ = some (.int .i64 0) from (Sy.box h (n := n7) (x := mAll) (by simp)).c0 7 _ rfl)
  go_cut [32] (fun s32 wx => s32 = .bool false ∧ Hid (Sy w [(.slice pl ms.length cl, ms)] [(n8, one), (n7, mAll)] wx))
  case first =>
    go_region_held3 (fun wr => Sy w [(.slice pl ms.length cl, ms)] [(n8, one), (n7, mAll)] wr) (first | with_reducible assumption | with_reducible exact Sy.alloc (by with_reducible assumption) _ | with_reducible exact Sy.aldrew (by first | with_reducible assumption | with_reducible exact S5q.out.drew) _ | with_reducible exact S5q.out.drew)
      (first
        | (go_at_call 27; (with_reducible refine (sy_reduce (by with_reducible assumption) HRD.out (rfl : [mAll].length = 1) (by first | with_reducible exact ims_dr HM5q.out | with_reducible exact ims_dr (ims_al HM5q.out _) | fail "no list") HZ5.out hlz5).mono ?_); rintro er wr1 ⟨pr, cr, rfl, hr1, hbr1, hSr1⟩; (first | (have kr := IsMsgs.below (by first | with_reducible exact newAll _ rfl | with_reducible exact ims_dr (newAll _ rfl) | fail "no list") hbr1; try simp only [World.size_alloc] at kr) | skip))
        | (go_at_call 25; (with_reducible refine (sy_same (by with_reducible assumption) (rfl : [mAll] = [mAll]) (by first | with_reducible assumption | with_reducible exact ims_al hr1 _ | fail "no list") (by first | with_reducible exact newAll _ rfl | with_reducible assumption | fail "no list")).mono ?_); rintro es ws1 ⟨rfl, hSs1⟩)
        | fail "no arm")
    all_goals
      have HS4 := Lib.hid (show Sy w [(.slice pl ms.length cl, ms)] [(n8, one), (n7, mAll)] _ from by with_reducible assumption)
      go_wp2_with fail
      go_meet
      exact ⟨rfl, HS4⟩
  case rest =>
    obtain ⟨rfl, S7⟩ := hcut
    clear e0 e1 e2 e3 e4 e5 e6 e7 HM5q S5q HRD HZ5 hlz5 HBQ5
    rcases H6.out.cases with hk | hk | hk | hk | hk | hk
    · obtain ⟨R, hR⟩ : ∃ r, reduceS (ms ++ [one]) = r := ⟨_, rfl⟩
      have hR2 : reduceS (ms ++ [one, one]) = R := by rw [reduce_twice ms one (by rw [hk]; simp) HWR.out]; exact hR
      have HR := Lib.hid hR
      have HR2 := Lib.hid hR2
      clear hR hR2
      obtain ⟨nR, hnR⟩ : ∃ n, R.length = n := ⟨_, rfl⟩
      have HNR := Lib.hid hnR
      clear hnR
      have HK := Lib.hid hk
      clear hk
      have o0 : wc.cell? ⟨n8, 0, none⟩ = some (.int .i64 1) := by have h := (Sy.box S7.out (n := n8) (x := one) (by simp)).c0 0 (.int .i64 one.kind) rfl; rw [HK.out] at h; exact h
      have o1 : wc.cell? ⟨n8, 1, none⟩ = some (.string (Str one.key)) := (Sy.box S7.out (n := n8) (x := one) (by simp)).c0 1 _ rfl
      have o2 : wc.cell? ⟨n8, 2, none⟩ = some (.string (Str one.val)) := (Sy.box S7.out (n := n8) (x := one) (by simp)).c0 2 _ rfl
      have o3 : wc.cell? ⟨n8, 3, none⟩ = some (.string (Str one.lo)) := (Sy.box S7.out (n := n8) (x := one) (by simp)).c0 3 _ rfl
      have o4 : wc.cell? ⟨n8, 4, none⟩ = some (.string (Str one.hi)) := (Sy.box S7.out (n := n8) (x := one) (by simp)).c0 4 _ rfl
      have o5 : wc.cell? ⟨n8, 5, none⟩ = some (.string (Str one.src)) := (Sy.box S7.out (n := n8) (x := one) (by simp)).c0 5 _ rfl
      have o6 : wc.cell? ⟨n8, 6, none⟩ = some (.string (Str one.dst)) := (Sy.box S7.out (n := n8) (x := one) (by simp)).c0 6 _ rfl
      have o7 : wc.cell? ⟨n8, 7, none⟩ = some (.int .i64 one.n) := (Sy.box S7.out (n := n8) (x := one) (by simp)).c0 7 _ rfl
      clear o1 o2 o3 o4 o5 o6 o7
      have hE8 := Lib.hid (own_emptyMs wc wc.heap.size (Nat.le_refl _))
      go_upto_region 11 with (at_builtin; go_must (refine append_msgs rfl _ _ rfl wc.heap.size (.slice (some ⟨wc.heap.size, 0, none⟩) 0 0) [] rfl ?a18 (.slice pl ms.length cl) ms rfl ?a28 ?a38 ?a48 ?_; (case a18 => exact hE8.out); (case a28 => exact ims_al (S7.out.m (.slice pl ms.length cl, ms) (by simp)) _); (case a38 => simp; omega); (case a48 => simp); intro v8 w8 ho8 hb8; rw [List.nil_append] at ho8; obtain ⟨p8, c8, rfl, hx8, hy8⟩ := own_formM ho8))
      clear hE8
      have hbw8 : Below wc.heap.size wc w8 := (below_box _).trans (hb8.mono (by simp))
      have HO8 := Lib.hid ho8
      have HBW8 := Lib.hid hbw8
      clear ho8 hb8 hbw8 hx8 hy8
      have S8 := Lib.hid (S7.out.below HBW8.out)
      clear o0
      have o0 : w8.cell? ⟨n8, 0, none⟩ = some (.int .i64 1) := by have h := (Sy.box S8.out (n := n8) (x := one) (by simp)).c0 0 (.int .i64 one.kind) rfl; rw [HK.out] at h; exact h
      have o1 : w8.cell? ⟨n8, 1, none⟩ = some (.string (Str one.key)) := (Sy.box S8.out (n := n8) (x := one) (by simp)).c0 1 _ rfl
      have o2 : w8.cell? ⟨n8, 2, none⟩ = some (.string (Str one.val)) := (Sy.box S8.out (n := n8) (x := one) (by simp)).c0 2 _ rfl
      have o3 : w8.cell? ⟨n8, 3, none⟩ = some (.string (Str one.lo)) := (Sy.box S8.out (n := n8) (x := one) (by simp)).c0 3 _ rfl
      have o4 : w8.cell? ⟨n8, 4, none⟩ = some (.string (Str one.hi)) := (Sy.box S8.out (n := n8) (x := one) (by simp)).c0 4 _ rfl
      have o5 : w8.cell? ⟨n8, 5, none⟩ = some (.string (Str one.src)) := (Sy.box S8.out (n := n8) (x := one) (by simp)).c0 5 _ rfl
      have o6 : w8.cell? ⟨n8, 6, none⟩ = some (.string (Str one.dst)) := (Sy.box S8.out (n := n8) (x := one) (by simp)).c0 6 _ rfl
      have o7 : w8.cell? ⟨n8, 7, none⟩ = some (.int .i64 one.n) := (Sy.box S8.out (n := n8) (x := one) (by simp)).c0 7 _ rfl
      have hmk : (.int .i64 1 : Value) = .int .i64 one.kind := by rw [HK.out]
      have HMK := Lib.hid hmk
      clear hmk
      go_upto_region 12 with (at_builtin; go_must (refine append_msgs rfl _ _ rfl wc.heap.size (.slice p8 ms.length c8) ms rfl ?b18 (.slice (some ⟨w8.heap.size, 0, none⟩) 2 2) [one, one] rfl ?b28 ?b38 ?b48 ?_; (case b18 => exact HO8.out.below (below_box _)); (case b28 => exact (by rw [HMK.out]; exact new2 _ one one rfl)); (case b38 => simp; omega); (case b48 => exact Nat.le_trans HBW8.out.size (by simp)); intro v8q w8q ho8q hb8q; obtain ⟨p8q, c8q, hv8q, hx8q, hy8q⟩ := own_formM ho8q; obtain ⟨n8q, hn8q⟩ : ∃ n, n = (ms ++ [one, one]).length := ⟨_, rfl⟩; rw [← hn8q] at hv8q; subst hv8q; clear hn8q hx8q hy8q))
      have HBQ8 : Hid (Below wc.heap.size wc w8q) := Lib.hid (HBW8.out.trans (((Below.refl wc.heap.size w8).alloc HBW8.out.size _).trans hb8q))
      have S8q := Lib.hid (S7.out.below HBQ8.out)
      have HM8q := Lib.hid ho8q.msgs
      clear HO8 HBW8 ho8q hb8q
      clear S8 o0 o1 o2 o3 o4 o5 o6 o7
      have hE9 := Lib.hid (own_emptyMs w8q w8q.heap.size (Nat.le_refl _))
      go_upto_region 13 with (at_builtin; go_must (refine append_msgs rfl _ _ rfl w8q.heap.size (.slice (some ⟨w8q.heap.size, 0, none⟩) 0 0) [] rfl ?a19 (.slice pl ms.length cl) ms rfl ?a29 ?a39 ?a49 ?_; (case a19 => exact hE9.out); (case a29 => exact ims_al (S8q.out.m (.slice pl ms.length cl, ms) (by simp)) _); (case a39 => simp; omega); (case a49 => simp); intro v9 w9 ho9 hb9; rw [List.nil_append] at ho9; obtain ⟨p9, c9, rfl, hx9, hy9⟩ := own_formM ho9))
      clear hE9
      have hbw9 : Below w8q.heap.size w8q w9 := (below_box _).trans (hb9.mono (by simp))
      have HO9 := Lib.hid ho9
      have HBW9 := Lib.hid hbw9
      clear ho9 hb9 hbw9 hx9 hy9
      have S9 := Lib.hid (S8q.out.below HBW9.out)
      have o0 : w9.cell? ⟨n8, 0, none⟩ = some (.int .i64 1) := by have h := (Sy.box S9.out (n := n8) (x := one) (by simp)).c0 0 (.int .i64 one.kind) rfl; rw [HK.out] at h; exact h
      have o1 : w9.cell? ⟨n8, 1, none⟩ = some (.string (Str one.key)) := (Sy.box S9.out (n := n8) (x := one) (by simp)).c0 1 _ rfl
      have o2 : w9.cell? ⟨n8, 2, none⟩ = some (.string (Str one.val)) := (Sy.box S9.out (n := n8) (x := one) (by simp)).c0 2 _ rfl
      have o3 : w9.cell? ⟨n8, 3, none⟩ = some (.string (Str one.lo)) := (Sy.box S9.out (n := n8) (x := one) (by simp)).c0 3 _ rfl
      have o4 : w9.cell? ⟨n8, 4, none⟩ = some (.string (Str one.hi)) := (Sy.box S9.out (n := n8) (x := one) (by simp)).c0 4 _ rfl
      have o5 : w9.cell? ⟨n8, 5, none⟩ = some (.string (Str one.src)) := (Sy.box S9.out (n := n8) (x := one) (by simp)).c0 5 _ rfl
      have o6 : w9.cell? ⟨n8, 6, none⟩ = some (.string (Str one.dst)) := (Sy.box S9.out (n := n8) (x := one) (by simp)).c0 6 _ rfl
      have o7 : w9.cell? ⟨n8, 7, none⟩ = some (.int .i64 one.n) := (Sy.box S9.out (n := n8) (x := one) (by simp)).c0 7 _ rfl
      go_upto_region 14 with (at_builtin; go_must (refine append_msgs rfl _ _ rfl w8q.heap.size (.slice p9 ms.length c9) ms rfl ?b19 (.slice (some ⟨w9.heap.size, 0, none⟩) 1 1) [one] rfl ?b29 ?b39 ?b49 ?_; (case b19 => exact HO9.out.below (below_box _)); (case b29 => exact (by rw [HMK.out]; exact new1 _ one rfl)); (case b39 => simp; omega); (case b49 => exact Nat.le_trans HBW9.out.size (by simp)); intro v9q w9q ho9q hb9q; obtain ⟨p9q, c9q, hv9q, hx9q, hy9q⟩ := own_formM ho9q; obtain ⟨n9q, hn9q⟩ : ∃ n, n = (ms ++ [one]).length := ⟨_, rfl⟩; rw [← hn9q] at hv9q; subst hv9q; clear hn9q hx9q hy9q))
      have HBQ9 : Hid (Below w8q.heap.size w8q w9q) := Lib.hid (HBW9.out.trans (((Below.refl w8q.heap.size w9).alloc HBW9.out.size _).trans hb9q))
      have S9q := Lib.hid (S8q.out.below HBQ9.out)
      have HM9q := Lib.hid ho9q.msgs
      clear HO9 HBW9 ho9q hb9q
      clear S9 S7 HMK o0 o1 o2 o3 o4 o5 o6 o7
      have HM8z := Lib.hid (HM8q.out.below HBQ9.out)
      clear HM8q HBQ8 HBQ9 S8q
      go_wp2_with fail
      refine (sy_reduce S9q.out HR2.out HNR.out HM8z.out (fun m hm => (List.mem_append.1 hm).elim (HOK.out m) (fun h => by simp at h; rw [h]; exact HOO.out)) (by simp; omega)).mono ?_
      rintro e10 w10 ⟨p10, c10, rfl, hr10, hb10, hS10⟩
      have HM9z := Lib.hid (HM9q.out.below hb10)
      have HR10 := Lib.hid hr10
      have S10 := Lib.hid hS10
      clear hr10 hb10 hS10 HM8z HM9q S9q
      go_wp2_with fail
      refine (sy_reduce S10.out HR.out HNR.out HM9z.out (fun m hm => (List.mem_append.1 hm).elim (HOK.out m) (fun h => by rw [List.mem_singleton.1 h]; exact HOO.out)) (by simp; omega)).mono ?_
      rintro e11 w11 ⟨p11, c11, rfl, hr11, hb11, hS11⟩
      have HR11 := Lib.hid hr11
      have HR10z := Lib.hid (HR10.out.below hb11)
      have S11 := Lib.hid hS11
      clear hr11 hb11 hS11 HR10 HM9z S10
      go_wp2_with fail
      refine (sy_same S11.out (rfl : R = R) HR10z.out HR11.out).mono ?_
      rintro e12 w12 ⟨rfl, hS12⟩
      have S12 := Lib.hid hS12
      clear hS12 HR11 HR10z S11
      have o0 : w12.cell? ⟨n8, 0, none⟩ = some (.int .i64 1) := by have h := (Sy.box S12.out (n := n8) (x := one) (by simp)).c0 0 (.int .i64 one.kind) rfl; rw [HK.out] at h; exact h
      have HG := Lib.hid S12.out.g
      clear S12
      go_wp2
      go_ret
      exact ⟨rfl, HG.out⟩
    · obtain ⟨R, hR⟩ : ∃ r, reduceS (ms ++ [one]) = r := ⟨_, rfl⟩
      have hR2 : reduceS (ms ++ [one, one]) = R := by rw [reduce_twice ms one (by rw [hk]; simp) HWR.out]; exact hR
      have HR := Lib.hid hR
      have HR2 := Lib.hid hR2
      clear hR hR2
      obtain ⟨nR, hnR⟩ : ∃ n, R.length = n := ⟨_, rfl⟩
      have HNR := Lib.hid hnR
      clear hnR
      have HK := Lib.hid hk
      clear hk
      have o0 : wc.cell? ⟨n8, 0, none⟩ = some (.int .i64 2) := by have h := (Sy.box S7.out (n := n8) (x := one) (by simp)).c0 0 (.int .i64 one.kind) rfl; rw [HK.out] at h; exact h
      have o1 : wc.cell? ⟨n8, 1, none⟩ = some (.string (Str one.key)) := (Sy.box S7.out (n := n8) (x := one) (by simp)).c0 1 _ rfl
      have o2 : wc.cell? ⟨n8, 2, none⟩ = some (.string (Str one.val)) := (Sy.box S7.out (n := n8) (x := one) (by simp)).c0 2 _ rfl
      have o3 : wc.cell? ⟨n8, 3, none⟩ = some (.string (Str one.lo)) := (Sy.box S7.out (n := n8) (x := one) (by simp)).c0 3 _ rfl
      have o4 : wc.cell? ⟨n8, 4, none⟩ = some (.string (Str one.hi)) := (Sy.box S7.out (n := n8) (x := one) (by simp)).c0 4 _ rfl
      have o5 : wc.cell? ⟨n8, 5, none⟩ = some (.string (Str one.src)) := (Sy.box S7.out (n := n8) (x := one) (by simp)).c0 5 _ rfl
      have o6 : wc.cell? ⟨n8, 6, none⟩ = some (.string (Str one.dst)) := (Sy.box S7.out (n := n8) (x := one) (by simp)).c0 6 _ rfl
      have o7 : wc.cell? ⟨n8, 7, none⟩ = some (.int .i64 one.n) := (Sy.box S7.out (n := n8) (x := one) (by simp)).c0 7 _ rfl
      clear o1 o2 o3 o4 o5 o6 o7
      have hE8 := Lib.hid (own_emptyMs wc wc.heap.size (Nat.le_refl _))
      go_upto_region 11 with (at_builtin; go_must (refine append_msgs rfl _ _ rfl wc.heap.size (.slice (some ⟨wc.heap.size, 0, none⟩) 0 0) [] rfl ?a18 (.slice pl ms.length cl) ms rfl ?a28 ?a38 ?a48 ?_; (case a18 => exact hE8.out); (case a28 => exact ims_al (S7.out.m (.slice pl ms.length cl, ms) (by simp)) _); (case a38 => simp; omega); (case a48 => simp); intro v8 w8 ho8 hb8; rw [List.nil_append] at ho8; obtain ⟨p8, c8, rfl, hx8, hy8⟩ := own_formM ho8))
      clear hE8
      have hbw8 : Below wc.heap.size wc w8 := (below_box _).trans (hb8.mono (by simp))
      have HO8 := Lib.hid ho8
      have HBW8 := Lib.hid hbw8
      clear ho8 hb8 hbw8 hx8 hy8
      have S8 := Lib.hid (S7.out.below HBW8.out)
      clear o0
      have o0 : w8.cell? ⟨n8, 0, none⟩ = some (.int .i64 2) := by have h := (Sy.box S8.out (n := n8) (x := one) (by simp)).c0 0 (.int .i64 one.kind) rfl; rw [HK.out] at h; exact h
      have o1 : w8.cell? ⟨n8, 1, none⟩ = some (.string (Str one.key)) := (Sy.box S8.out (n := n8) (x := one) (by simp)).c0 1 _ rfl
      have o2 : w8.cell? ⟨n8, 2, none⟩ = some (.string (Str one.val)) := (Sy.box S8.out (n := n8) (x := one) (by simp)).c0 2 _ rfl
      have o3 : w8.cell? ⟨n8, 3, none⟩ = some (.string (Str one.lo)) := (Sy.box S8.out (n := n8) (x := one) (by simp)).c0 3 _ rfl
      have o4 : w8.cell? ⟨n8, 4, none⟩ = some (.string (Str one.hi)) := (Sy.box S8.out (n := n8) (x := one) (by simp)).c0 4 _ rfl
      have o5 : w8.cell? ⟨n8, 5, none⟩ = some (.string (Str one.src)) := (Sy.box S8.out (n := n8) (x := one) (by simp)).c0 5 _ rfl
      have o6 : w8.cell? ⟨n8, 6, none⟩ = some (.string (Str one.dst)) := (Sy.box S8.out (n := n8) (x := one) (by simp)).c0 6 _ rfl
      have o7 : w8.cell? ⟨n8, 7, none⟩ = some (.int .i64 one.n) := (Sy.box S8.out (n := n8) (x := one) (by simp)).c0 7 _ rfl
      have hmk : (.int .i64 2 : Value) = .int .i64 one.kind := by rw [HK.out]
      have HMK := Lib.hid hmk
      clear hmk
      go_upto_region 12 with (at_builtin; go_must (refine append_msgs rfl _ _ rfl wc.heap.size (.slice p8 ms.length c8) ms rfl ?b18 (.slice (some ⟨w8.heap.size, 0, none⟩) 2 2) [one, one] rfl ?b28 ?b38 ?b48 ?_; (case b18 => exact HO8.out.below (below_box _)); (case b28 => exact (by rw [HMK.out]; exact new2 _ one one rfl)); (case b38 => simp; omega); (case b48 => exact Nat.le_trans HBW8.out.size (by simp)); intro v8q w8q ho8q hb8q; obtain ⟨p8q, c8q, hv8q, hx8q, hy8q⟩ := own_formM ho8q; obtain ⟨n8q, hn8q⟩ : ∃ n, n = (ms ++ [one, one]).length := ⟨_, rfl⟩; rw [← hn8q] at hv8q; subst hv8q; clear hn8q hx8q hy8q))
      have HBQ8 : Hid (Below wc.heap.size wc w8q) := Lib.hid (HBW8.out.trans (((Below.refl wc.heap.size w8).alloc HBW8.out.size _).trans hb8q))
      have S8q := Lib.hid (S7.out.below HBQ8.out)
      have HM8q := Lib.hid ho8q.msgs
      clear HO8 HBW8 ho8q hb8q
      clear S8 o0 o1 o2 o3 o4 o5 o6 o7
      have hE9 := Lib.hid (own_emptyMs w8q w8q.heap.size (Nat.le_refl _))
      go_upto_region 13 with (at_builtin; go_must (refine append_msgs rfl _ _ rfl w8q.heap.size (.slice (some ⟨w8q.heap.size, 0, none⟩) 0 0) [] rfl ?a19 (.slice pl ms.length cl) ms rfl ?a29 ?a39 ?a49 ?_; (case a19 => exact hE9.out); (case a29 => exact ims_al (S8q.out.m (.slice pl ms.length cl, ms) (by simp)) _); (case a39 => simp; omega); (case a49 => simp); intro v9 w9 ho9 hb9; rw [List.nil_append] at ho9; obtain ⟨p9, c9, rfl, hx9, hy9⟩ := own_formM ho9))
      clear hE9
      have hbw9 : Below w8q.heap.size w8q w9 := (below_box _).trans (hb9.mono (by simp))
      have HO9 := Lib.hid ho9
      have HBW9 := Lib.hid hbw9
      clear ho9 hb9 hbw9 hx9 hy9
      have S9 := Lib.hid (S8q.out.below HBW9.out)
      have o0 : w9.cell? ⟨n8, 0, none⟩ = some (.int .i64 2) := by have h := (Sy.box S9.out (n := n8) (x := one) (by simp)).c0 0 (.int .i64 one.kind) rfl; rw [HK.out] at h; exact h
      have o1 : w9.cell? ⟨n8, 1, none⟩ = some (.string (Str one.key)) := (Sy.box S9.out (n := n8) (x := one) (by simp)).c0 1 _ rfl
      have o2 : w9.cell? ⟨n8, 2, none⟩ = some (.string (Str one.val)) := (Sy.box S9.out (n := n8) (x := one) (by simp)).c0 2 _ rfl
      have o3 : w9.cell? ⟨n8, 3, none⟩ = some (.string (Str one.lo)) := (Sy.box S9.out (n := n8) (x := one) (by simp)).c0 3 _ rfl
      have o4 : w9.cell? ⟨n8, 4, none⟩ = some (.string (Str one.hi)) := (Sy.box S9.out (n := n8) (x := one) (by simp)).c0 4 _ rfl
      have o5 : w9.cell? ⟨n8, 5, none⟩ = some (.string (Str one.src)) := (Sy.box S9.out (n := n8) (x := one) (by simp)).c0 5 _ rfl
      have o6 : w9.cell? ⟨n8, 6, none⟩ = some (.string (Str one.dst)) := (Sy.box S9.out (n := n8) (x := one) (by simp)).c0 6 _ rfl
      have o7 : w9.cell? ⟨n8, 7, none⟩ = some (.int .i64 one.n) := (Sy.box S9.out (n := n8) (x := one) (by simp)).c0 7 _ rfl
      go_upto_region 14 with (at_builtin; go_must (refine append_msgs rfl _ _ rfl w8q.heap.size (.slice p9 ms.length c9) ms rfl ?b19 (.slice (some ⟨w9.heap.size, 0, none⟩) 1 1) [one] rfl ?b29 ?b39 ?b49 ?_; (case b19 => exact HO9.out.below (below_box _)); (case b29 => exact (by rw [HMK.out]; exact new1 _ one rfl)); (case b39 => simp; omega); (case b49 => exact Nat.le_trans HBW9.out.size (by simp)); intro v9q w9q ho9q hb9q; obtain ⟨p9q, c9q, hv9q, hx9q, hy9q⟩ := own_formM ho9q; obtain ⟨n9q, hn9q⟩ : ∃ n, n = (ms ++ [one]).length := ⟨_, rfl⟩; rw [← hn9q] at hv9q; subst hv9q; clear hn9q hx9q hy9q))
      have HBQ9 : Hid (Below w8q.heap.size w8q w9q) := Lib.hid (HBW9.out.trans (((Below.refl w8q.heap.size w9).alloc HBW9.out.size _).trans hb9q))
      have S9q := Lib.hid (S8q.out.below HBQ9.out)
      have HM9q := Lib.hid ho9q.msgs
      clear HO9 HBW9 ho9q hb9q
      clear S9 S7 HMK o0 o1 o2 o3 o4 o5 o6 o7
      have HM8z := Lib.hid (HM8q.out.below HBQ9.out)
      clear HM8q HBQ8 HBQ9 S8q
      go_wp2_with fail
      refine (sy_reduce S9q.out HR2.out HNR.out HM8z.out (fun m hm => (List.mem_append.1 hm).elim (HOK.out m) (fun h => by simp at h; rw [h]; exact HOO.out)) (by simp; omega)).mono ?_
      rintro e10 w10 ⟨p10, c10, rfl, hr10, hb10, hS10⟩
      have HM9z := Lib.hid (HM9q.out.below hb10)
      have HR10 := Lib.hid hr10
      have S10 := Lib.hid hS10
      clear hr10 hb10 hS10 HM8z HM9q S9q
      go_wp2_with fail
      refine (sy_reduce S10.out HR.out HNR.out HM9z.out (fun m hm => (List.mem_append.1 hm).elim (HOK.out m) (fun h => by rw [List.mem_singleton.1 h]; exact HOO.out)) (by simp; omega)).mono ?_
      rintro e11 w11 ⟨p11, c11, rfl, hr11, hb11, hS11⟩
      have HR11 := Lib.hid hr11
      have HR10z := Lib.hid (HR10.out.below hb11)
      have S11 := Lib.hid hS11
      clear hr11 hb11 hS11 HR10 HM9z S10
      go_wp2_with fail
      refine (sy_same S11.out (rfl : R = R) HR10z.out HR11.out).mono ?_
      rintro e12 w12 ⟨rfl, hS12⟩
      have S12 := Lib.hid hS12
      clear hS12 HR11 HR10z S11
      have o0 : w12.cell? ⟨n8, 0, none⟩ = some (.int .i64 2) := by have h := (Sy.box S12.out (n := n8) (x := one) (by simp)).c0 0 (.int .i64 one.kind) rfl; rw [HK.out] at h; exact h
      have HG := Lib.hid S12.out.g
      clear S12
      go_wp2
      go_ret
      exact ⟨rfl, HG.out⟩
    · obtain ⟨R, hR⟩ : ∃ r, reduceS (ms ++ [one]) = r := ⟨_, rfl⟩
      have hR2 : reduceS (ms ++ [one, one]) = R := by rw [reduce_twice ms one (by rw [hk]; simp) HWR.out]; exact hR
      have HR := Lib.hid hR
      have HR2 := Lib.hid hR2
      clear hR hR2
      obtain ⟨nR, hnR⟩ : ∃ n, R.length = n := ⟨_, rfl⟩
      have HNR := Lib.hid hnR
      clear hnR
      have HK := Lib.hid hk
      clear hk
      have o0 : wc.cell? ⟨n8, 0, none⟩ = some (.int .i64 3) := by have h := (Sy.box S7.out (n := n8) (x := one) (by simp)).c0 0 (.int .i64 one.kind) rfl; rw [HK.out] at h; exact h
      have o1 : wc.cell? ⟨n8, 1, none⟩ = some (.string (Str one.key)) := (Sy.box S7.out (n := n8) (x := one) (by simp)).c0 1 _ rfl
      have o2 : wc.cell? ⟨n8, 2, none⟩ = some (.string (Str one.val)) := (Sy.box S7.out (n := n8) (x := one) (by simp)).c0 2 _ rfl
      have o3 : wc.cell? ⟨n8, 3, none⟩ = some (.string (Str one.lo)) := (Sy.box S7.out (n := n8) (x := one) (by simp)).c0 3 _ rfl
      have o4 : wc.cell? ⟨n8, 4, none⟩ = some (.string (Str one.hi)) := (Sy.box S7.out (n := n8) (x := one) (by simp)).c0 4 _ rfl
      have o5 : wc.cell? ⟨n8, 5, none⟩ = some (.string (Str one.src)) := (Sy.box S7.out (n := n8) (x := one) (by simp)).c0 5 _ rfl
      have o6 : wc.cell? ⟨n8, 6, none⟩ = some (.string (Str one.dst)) := (Sy.box S7.out (n := n8) (x := one) (by simp)).c0 6 _ rfl
      have o7 : wc.cell? ⟨n8, 7, none⟩ = some (.int .i64 one.n) := (Sy.box S7.out (n := n8) (x := one) (by simp)).c0 7 _ rfl
      clear o1 o2 o3 o4 o5 o6 o7
      have hE8 := Lib.hid (own_emptyMs wc wc.heap.size (Nat.le_refl _))
      go_upto_region 11 with (at_builtin; go_must (refine append_msgs rfl _ _ rfl wc.heap.size (.slice (some ⟨wc.heap.size, 0, none⟩) 0 0) [] rfl ?a18 (.slice pl ms.length cl) ms rfl ?a28 ?a38 ?a48 ?_; (case a18 => exact hE8.out); (case a28 => exact ims_al (S7.out.m (.slice pl ms.length cl, ms) (by simp)) _); (case a38 => simp; omega); (case a48 => simp); intro v8 w8 ho8 hb8; rw [List.nil_append] at ho8; obtain ⟨p8, c8, rfl, hx8, hy8⟩ := own_formM ho8))
      clear hE8
      have hbw8 : Below wc.heap.size wc w8 := (below_box _).trans (hb8.mono (by simp))
      have HO8 := Lib.hid ho8
      have HBW8 := Lib.hid hbw8
      clear ho8 hb8 hbw8 hx8 hy8
      have S8 := Lib.hid (S7.out.below HBW8.out)
      clear o0
      have o0 : w8.cell? ⟨n8, 0, none⟩ = some (.int .i64 3) := by have h := (Sy.box S8.out (n := n8) (x := one) (by simp)).c0 0 (.int .i64 one.kind) rfl; rw [HK.out] at h; exact h
      have o1 : w8.cell? ⟨n8, 1, none⟩ = some (.string (Str one.key)) := (Sy.box S8.out (n := n8) (x := one) (by simp)).c0 1 _ rfl
      have o2 : w8.cell? ⟨n8, 2, none⟩ = some (.string (Str one.val)) := (Sy.box S8.out (n := n8) (x := one) (by simp)).c0 2 _ rfl
      have o3 : w8.cell? ⟨n8, 3, none⟩ = some (.string (Str one.lo)) := (Sy.box S8.out (n := n8) (x := one) (by simp)).c0 3 _ rfl
      have o4 : w8.cell? ⟨n8, 4, none⟩ = some (.string (Str one.hi)) := (Sy.box S8.out (n := n8) (x := one) (by simp)).c0 4 _ rfl
      have o5 : w8.cell? ⟨n8, 5, none⟩ = some (.string (Str one.src)) := (Sy.box S8.out (n := n8) (x := one) (by simp)).c0 5 _ rfl
      have o6 : w8.cell? ⟨n8, 6, none⟩ = some (.string (Str one.dst)) := (Sy.box S8.out (n := n8) (x := one) (by simp)).c0 6 _ rfl
      have o7 : w8.cell? ⟨n8, 7, none⟩ = some (.int .i64 one.n) := (Sy.box S8.out (n := n8) (x := one) (by simp)).c0 7 _ rfl
      have hmk : (.int .i64 3 : Value) = .int .i64 one.kind := by rw [HK.out]
      have HMK := Lib.hid hmk
      clear hmk
      go_upto_region 12 with (at_builtin; go_must (refine append_msgs rfl _ _ rfl wc.heap.size (.slice p8 ms.length c8) ms rfl ?b18 (.slice (some ⟨w8.heap.size, 0, none⟩) 2 2) [one, one] rfl ?b28 ?b38 ?b48 ?_; (case b18 => exact HO8.out.below (below_box _)); (case b28 => exact (by rw [HMK.out]; exact new2 _ one one rfl)); (case b38 => simp; omega); (case b48 => exact Nat.le_trans HBW8.out.size (by simp)); intro v8q w8q ho8q hb8q; obtain ⟨p8q, c8q, hv8q, hx8q, hy8q⟩ := own_formM ho8q; obtain ⟨n8q, hn8q⟩ : ∃ n, n = (ms ++ [one, one]).length := ⟨_, rfl⟩; rw [← hn8q] at hv8q; subst hv8q; clear hn8q hx8q hy8q))
      have HBQ8 : Hid (Below wc.heap.size wc w8q) := Lib.hid (HBW8.out.trans (((Below.refl wc.heap.size w8).alloc HBW8.out.size _).trans hb8q))
      have S8q := Lib.hid (S7.out.below HBQ8.out)
      have HM8q := Lib.hid ho8q.msgs
      clear HO8 HBW8 ho8q hb8q
      clear S8 o0 o1 o2 o3 o4 o5 o6 o7
      have hE9 := Lib.hid (own_emptyMs w8q w8q.heap.size (Nat.le_refl _))
      go_upto_region 13 with (at_builtin; go_must (refine append_msgs rfl _ _ rfl w8q.heap.size (.slice (some ⟨w8q.heap.size, 0, none⟩) 0 0) [] rfl ?a19 (.slice pl ms.length cl) ms rfl ?a29 ?a39 ?a49 ?_; (case a19 => exact hE9.out); (case a29 => exact ims_al (S8q.out.m (.slice pl ms.length cl, ms) (by simp)) _); (case a39 => simp; omega); (case a49 => simp); intro v9 w9 ho9 hb9; rw [List.nil_append] at ho9; obtain ⟨p9, c9, rfl, hx9, hy9⟩ := own_formM ho9))
      clear hE9
      have hbw9 : Below w8q.heap.size w8q w9 := (below_box _).trans (hb9.mono (by simp))
      have HO9 := Lib.hid ho9
      have HBW9 := Lib.hid hbw9
      clear ho9 hb9 hbw9 hx9 hy9
      have S9 := Lib.hid (S8q.out.below HBW9.out)
      have o0 : w9.cell? ⟨n8, 0, none⟩ = some (.int .i64 3) := by have h := (Sy.box S9.out (n := n8) (x := one) (by simp)).c0 0 (.int .i64 one.kind) rfl; rw [HK.out] at h; exact h
      have o1 : w9.cell? ⟨n8, 1, none⟩ = some (.string (Str one.key)) := (Sy.box S9.out (n := n8) (x := one) (by simp)).c0 1 _ rfl
      have o2 : w9.cell? ⟨n8, 2, none⟩ = some (.string (Str one.val)) := (Sy.box S9.out (n := n8) (x := one) (by simp)).c0 2 _ rfl
      have o3 : w9.cell? ⟨n8, 3, none⟩ = some (.string (Str one.lo)) := (Sy.box S9.out (n := n8) (x := one) (by simp)).c0 3 _ rfl
      have o4 : w9.cell? ⟨n8, 4, none⟩ = some (.string (Str one.hi)) := (Sy.box S9.out (n := n8) (x := one) (by simp)).c0 4 _ rfl
      have o5 : w9.cell? ⟨n8, 5, none⟩ = some (.string (Str one.src)) := (Sy.box S9.out (n := n8) (x := one) (by simp)).c0 5 _ rfl
      have o6 : w9.cell? ⟨n8, 6, none⟩ = some (.string (Str one.dst)) := (Sy.box S9.out (n := n8) (x := one) (by simp)).c0 6 _ rfl
      have o7 : w9.cell? ⟨n8, 7, none⟩ = some (.int .i64 one.n) := (Sy.box S9.out (n := n8) (x := one) (by simp)).c0 7 _ rfl
      go_upto_region 14 with (at_builtin; go_must (refine append_msgs rfl _ _ rfl w8q.heap.size (.slice p9 ms.length c9) ms rfl ?b19 (.slice (some ⟨w9.heap.size, 0, none⟩) 1 1) [one] rfl ?b29 ?b39 ?b49 ?_; (case b19 => exact HO9.out.below (below_box _)); (case b29 => exact (by rw [HMK.out]; exact new1 _ one rfl)); (case b39 => simp; omega); (case b49 => exact Nat.le_trans HBW9.out.size (by simp)); intro v9q w9q ho9q hb9q; obtain ⟨p9q, c9q, hv9q, hx9q, hy9q⟩ := own_formM ho9q; obtain ⟨n9q, hn9q⟩ : ∃ n, n = (ms ++ [one]).length := ⟨_, rfl⟩; rw [← hn9q] at hv9q; subst hv9q; clear hn9q hx9q hy9q))
      have HBQ9 : Hid (Below w8q.heap.size w8q w9q) := Lib.hid (HBW9.out.trans (((Below.refl w8q.heap.size w9).alloc HBW9.out.size _).trans hb9q))
      have S9q := Lib.hid (S8q.out.below HBQ9.out)
      have HM9q := Lib.hid ho9q.msgs
      clear HO9 HBW9 ho9q hb9q
      clear S9 S7 HMK o0 o1 o2 o3 o4 o5 o6 o7
      have HM8z := Lib.hid (HM8q.out.below HBQ9.out)
      clear HM8q HBQ8 HBQ9 S8q
      go_wp2_with fail
      refine (sy_reduce S9q.out HR2.out HNR.out HM8z.out (fun m hm => (List.mem_append.1 hm).elim (HOK.out m) (fun h => by simp at h; rw [h]; exact HOO.out)) (by simp; omega)).mono ?_
      rintro e10 w10 ⟨p10, c10, rfl, hr10, hb10, hS10⟩
      have HM9z := Lib.hid (HM9q.out.below hb10)
      have HR10 := Lib.hid hr10
      have S10 := Lib.hid hS10
      clear hr10 hb10 hS10 HM8z HM9q S9q
      go_wp2_with fail
      refine (sy_reduce S10.out HR.out HNR.out HM9z.out (fun m hm => (List.mem_append.1 hm).elim (HOK.out m) (fun h => by rw [List.mem_singleton.1 h]; exact HOO.out)) (by simp; omega)).mono ?_
      rintro e11 w11 ⟨p11, c11, rfl, hr11, hb11, hS11⟩
      have HR11 := Lib.hid hr11
      have HR10z := Lib.hid (HR10.out.below hb11)
      have S11 := Lib.hid hS11
      clear hr11 hb11 hS11 HR10 HM9z S10
      go_wp2_with fail
      refine (sy_same S11.out (rfl : R = R) HR10z.out HR11.out).mono ?_
      rintro e12 w12 ⟨rfl, hS12⟩
      have S12 := Lib.hid hS12
      clear hS12 HR11 HR10z S11
      have o0 : w12.cell? ⟨n8, 0, none⟩ = some (.int .i64 3) := by have h := (Sy.box S12.out (n := n8) (x := one) (by simp)).c0 0 (.int .i64 one.kind) rfl; rw [HK.out] at h; exact h
      have HE := Lib.hid (HOO.out.2 (one.lo, one.hi) (by simp [writesS, HK.out]))
      clear HNR HR HR2 HWR HAL
      obtain ⟨g0, q0, cap0, a0, e0, -, -, -, hc0⟩ := (S12.out.m (.slice pl ms.length cl, ms) (by simp)).form
      cases e0
      have HC0 := Lib.hid (fun i hi => (hc0 i hi).1)
      clear hc0
      have hkz : ((3 : Int) != 3) = false := by decide
      go_wp2
      clear o0
      go_loopw [12] (fun i wr => ∃ j : Nat, j ≤ ms.length ∧ i = .int .i64 j ∧ Sy w [(.slice pl ms.length cl, ms)] [(n8, one), (n7, mAll)] wr) (fun i _ => ms.length - (intOf i).toNat)
      case atStart => exact ⟨0, Nat.zero_le _, rfl, S12.out⟩
      case round =>
        obtain ⟨j, hj, rfl, hs⟩ := hrel
        clear S12
        by_cases hlt : j < ms.length
        · obtain rfl := HC0.out j hlt
          have hltz : (j : Int) < (ms.length : Int) := by omega
          have HSr := Lib.hid hs
          clear hs
          have HMS := Lib.hid (fun wr (h : Sy w [(.slice (some ⟨g0, q0, none⟩) ms.length cl, ms)] [(n8, one), (n7, mAll)] wr) => (msgs_at (h.m (.slice (some ⟨g0, q0, none⟩) ms.length cl, ms) (by simp)) j hlt))
          obtain ⟨hmo, hm6, -⟩ := HALL.out ms[j] (List.getElem_mem hlt)
          have hrt := reduce_two ms[j] one HK.out HE.out hmo.2
          have HMO := Lib.hid hmo
          have HM6 := Lib.hid hm6
          have HSZm : Hid (SizeM ms[j]) := Lib.hid hmo.1
          clear hmo hm6
          generalize ms[j] = m at *
          obtain ⟨R2, hR2⟩ : ∃ r, reduceS [m, one] = r := ⟨_, rfl⟩
          rw [hR2] at hrt
          obtain ⟨nr, hnr⟩ : ∃ n, R2.length = n := ⟨_, rfl⟩
          rw [hnr] at hrt
          have HR2' := Lib.hid hR2
          have HNR' := Lib.hid hnr
          have HZ2 : Hid (∀ x ∈ [m, one], Ok x) := Lib.hid (fun x hx => by
            simp at hx
            rcases hx with rfl | rfl
            · exact HMO.out
            · exact HOO.out)
          have hlz2 : [m, one].length ≤ 50 := by simp
          clear hR2 hnr
          have c0 := fun wr (h : Sy w [(.slice (some ⟨g0, q0, none⟩) ms.length cl, ms)] [(n8, one), (n7, mAll)] wr) => (show wr.cell? ⟨g0, q0 + j * 8, none⟩ = some (.int .i64 m.kind) from (HMS.out wr h).1)
          have c1 := fun wr (h : Sy w [(.slice (some ⟨g0, q0, none⟩) ms.length cl, ms)] [(n8, one), (n7, mAll)] wr) => (show wr.cell? ⟨g0, q0 + j * 8 + 1, none⟩ = some (.string (Str m.key)) from (HMS.out wr h).2.1)
          have c2 := fun wr (h : Sy w [(.slice (some ⟨g0, q0, none⟩) ms.length cl, ms)] [(n8, one), (n7, mAll)] wr) => (show wr.cell? ⟨g0, q0 + j * 8 + 2, none⟩ = some (.string (Str m.val)) from (HMS.out wr h).2.2.1)
          have c3 := fun wr (h : Sy w [(.slice (some ⟨g0, q0, none⟩) ms.length cl, ms)] [(n8, one), (n7, mAll)] wr) => (show wr.cell? ⟨g0, q0 + j * 8 + 3, none⟩ = some (.string (Str m.lo)) from (HMS.out wr h).2.2.2.1)
          have c4 := fun wr (h : Sy w [(.slice (some ⟨g0, q0, none⟩) ms.length cl, ms)] [(n8, one), (n7, mAll)] wr) => (show wr.cell? ⟨g0, q0 + j * 8 + 4, none⟩ = some (.string (Str m.hi)) from (HMS.out wr h).2.2.2.2.1)
          have c5 := fun wr (h : Sy w [(.slice (some ⟨g0, q0, none⟩) ms.length cl, ms)] [(n8, one), (n7, mAll)] wr) => (show wr.cell? ⟨g0, q0 + j * 8 + 5, none⟩ = some (.string (Str m.src)) from (HMS.out wr h).2.2.2.2.2.1)
          have c6 := fun wr (h : Sy w [(.slice (some ⟨g0, q0, none⟩) ms.length cl, ms)] [(n8, one), (n7, mAll)] wr) => (show wr.cell? ⟨g0, q0 + j * 8 + 6, none⟩ = some (.string (Str m.dst)) from (HMS.out wr h).2.2.2.2.2.2.1)
          have c7 := fun wr (h : Sy w [(.slice (some ⟨g0, q0, none⟩) ms.length cl, ms)] [(n8, one), (n7, mAll)] wr) => (show wr.cell? ⟨g0, q0 + j * 8 + 7, none⟩ = some (.int .i64 m.n) from (HMS.out wr h).2.2.2.2.2.2.2)
          have d0 := fun wr (h : Sy w [(.slice (some ⟨g0, q0, none⟩) ms.length cl, ms)] [(n8, one), (n7, mAll)] wr) => (show wr.cell? ⟨n8, 0, none⟩ = some (.int .i64 one.kind) from (by have h9 := (Sy.box h (n := n8) (x := one) (by simp)).c0 0 (.int .i64 one.kind) rfl; exact h9))
          have d1 := fun wr (h : Sy w [(.slice (some ⟨g0, q0, none⟩) ms.length cl, ms)] [(n8, one), (n7, mAll)] wr) => (show wr.cell? ⟨n8, 1, none⟩ = some (.string (Str one.key)) from (Sy.box h (n := n8) (x := one) (by simp)).c0 1 _ rfl)
          have d2 := fun wr (h : Sy w [(.slice (some ⟨g0, q0, none⟩) ms.length cl, ms)] [(n8, one), (n7, mAll)] wr) => (show wr.cell? ⟨n8, 2, none⟩ = some (.string (Str one.val)) from (Sy.box h (n := n8) (x := one) (by simp)).c0 2 _ rfl)
          have d3 := fun wr (h : Sy w [(.slice (some ⟨g0, q0, none⟩) ms.length cl, ms)] [(n8, one), (n7, mAll)] wr) => (show wr.cell? ⟨n8, 3, none⟩ = some (.string (Str one.lo)) from (Sy.box h (n := n8) (x := one) (by simp)).c0 3 _ rfl)
          have d4 := fun wr (h : Sy w [(.slice (some ⟨g0, q0, none⟩) ms.length cl, ms)] [(n8, one), (n7, mAll)] wr) => (show wr.cell? ⟨n8, 4, none⟩ = some (.string (Str one.hi)) from (Sy.box h (n := n8) (x := one) (by simp)).c0 4 _ rfl)
          have d5 := fun wr (h : Sy w [(.slice (some ⟨g0, q0, none⟩) ms.length cl, ms)] [(n8, one), (n7, mAll)] wr) => (show wr.cell? ⟨n8, 5, none⟩ = some (.string (Str one.src)) from (Sy.box h (n := n8) (x := one) (by simp)).c0 5 _ rfl)
          have d6 := fun wr (h : Sy w [(.slice (some ⟨g0, q0, none⟩) ms.length cl, ms)] [(n8, one), (n7, mAll)] wr) => (show wr.cell? ⟨n8, 6, none⟩ = some (.string (Str one.dst)) from (Sy.box h (n := n8) (x := one) (by simp)).c0 6 _ rfl)
          have d7 := fun wr (h : Sy w [(.slice (some ⟨g0, q0, none⟩) ms.length cl, ms)] [(n8, one), (n7, mAll)] wr) => (show wr.cell? ⟨n8, 7, none⟩ = some (.int .i64 one.n) from (Sy.box h (n := n8) (x := one) (by simp)).c0 7 _ rfl)
          have heq : ((nr : Int) == 1) = covB m one := by
            rw [← hrt, Bool.eq_iff_iff]; simp; omega
          clear hrt
          obtain ⟨q, hq⟩ : ∃ q, covB m one = q := ⟨_, rfl⟩
          rw [hq] at heq
          have HQ := Lib.hid hq
          clear hq
          go_wp2_with fail
          go_region_held3 (fun wr => Sy w [(.slice (some ⟨g0, q0, none⟩) ms.length cl, ms)] [(n8, one), (n7, mAll)] wr) (first | with_reducible assumption | with_reducible exact Sy.alloc (by with_reducible assumption) _ | with_reducible exact Sy.aldrew (by first | with_reducible assumption | with_reducible exact HSr.out.drew) _ | with_reducible exact HSr.out.drew)
            (first
              | (go_at_call 27; (with_reducible refine (sy_reduce (by with_reducible assumption) HR2'.out HNR'.out (by first | with_reducible exact new2 _ m one rfl | with_reducible exact ims_dr (new2 _ m one rfl) | fail "no list") HZ2.out hlz2).mono ?_); rintro er wr1 ⟨pr, cr, rfl, hr1, hbr1, hSr1⟩)
              | fail "no arm")
          all_goals
            have HSq := Lib.hid (show Sy w [(.slice (some ⟨g0, q0, none⟩) ms.length cl, ms)] [(n8, one), (n7, mAll)] _ from by with_reducible assumption)
            clear hr1 hbr1 hSr1
            go_wp2_with fail
            go_region_held3 (fun wr => Sy w [(.slice (some ⟨g0, q0, none⟩) ms.length cl, ms)] [(n8, one), (n7, mAll)] wr) (first | with_reducible assumption | with_reducible exact Sy.alloc (by with_reducible assumption) _ | with_reducible exact Sy.aldrew (by first | with_reducible assumption | with_reducible exact HSq.out.drew) _ | with_reducible exact HSq.out.drew)
              (first
                | (go_at_call 36; (with_reducible refine (sy_covered (by with_reducible assumption) m one HSZm.out HM6.out HQ.out).mono ?_); rintro es ws1 ⟨rfl, hSs1⟩)
                | fail "no arm")
            all_goals
              have HSz := Lib.hid (show Sy w [(.slice (some ⟨g0, q0, none⟩) ms.length cl, ms)] [(n8, one), (n7, mAll)] _ from by with_reducible assumption)
              clear c0 c1 c2 c3 c4 c5 c6 c7 d0 d1 d2 d3 d4 d5 d6 d7 heq HSq HSr
              go_wp2
              go_roundw
              case rel => exact ⟨j + 1, by omega, by go_num, HSz.out⟩
              case measure => simp [intOf]; omega
        · have HG := Lib.hid hs.g
          clear hs
          go_wp2
          go_ret
          exact ⟨rfl, HG.out⟩
    · have o0 : wc.cell? ⟨n8, 0, none⟩ = some (.int .i64 4) := by have h := (Sy.box S7.out (n := n8) (x := one) (by simp)).c0 0 (.int .i64 one.kind) rfl; rw [hk] at h; exact h
      have HG := Lib.hid S7.out.g
      clear hk
      go_wp2
      go_ret
      exact ⟨rfl, HG.out⟩
    · have o0 : wc.cell? ⟨n8, 0, none⟩ = some (.int .i64 5) := by have h := (Sy.box S7.out (n := n8) (x := one) (by simp)).c0 0 (.int .i64 one.kind) rfl; rw [hk] at h; exact h
      have HG := Lib.hid S7.out.g
      clear hk
      go_wp2
      go_ret
      exact ⟨rfl, HG.out⟩
    · have o0 : wc.cell? ⟨n8, 0, none⟩ = some (.int .i64 6) := by have h := (Sy.box S7.out (n := n8) (x := one) (by simp)).c0 0 (.int .i64 one.kind) rfl; rw [hk] at h; exact h
      have HG := Lib.hid S7.out.g
      clear hk
      go_wp2
      go_ret
      exact ⟨rfl, HG.out⟩

end Go.Proofs.YtpppkjcbheooeaaGreat
