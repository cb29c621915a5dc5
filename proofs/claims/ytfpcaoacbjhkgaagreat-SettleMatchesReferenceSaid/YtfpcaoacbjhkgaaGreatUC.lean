/-
  Walks: the iterator of the settled messages.
-/
import Derived.RangeFuncNested
import Derived.RangeFuncBound
import Derived.RangeFuncCalls
import Derived.RangeFuncLeaves
import Derived.Shelf.Abstract
import Derived.Shelf.RegionOpen
import Derived.WalkKit
import Derived.OwnWalkIn
import Derived.TacticsInMore
import Derived.LoopNIn
import Derived.LoopIn
import Derived.Test.YtfpcaoacbjhkgaaGreatUB
namespace Go.Proofs.YtfpcaoacbjhkgaaGreat
open Go.RowKit Go.Sort Go.Shelf
set_option linter.unusedVariables false
attribute [local go_sem] Oper.semAt_some

theorem grownBy_belowU {w w' : World} (h : Below w.heap.size w w') (row : Option Nat) : w.grownBy w' row := ⟨h.os, h.tape, h.output, h.size, fun i hi _ => h.block i hi⟩
/-- What has come when k pairs have been put. -/
def preU (m : Ms) (src : List Pr) (k : Nat) : List Ms := dropM m.dst :: (src.take k).map (putM m)
theorem preU_zero (m : Ms) (src : List Pr) : preU m src 0 = [] ++ [dropM m.dst] := by unfold preU; rw [List.take_zero]; rfl
theorem preU_succ (m : Ms) (src : List Pr) (k : Nat) (h : k < src.length) : preU m src (k + 1) = preU m src k ++ [putM m src[k]] := by
  unfold preU
  rw [List.take_succ_eq_append_getElem h, List.map_append]; rfl
theorem preU_len (m : Ms) (src : List Pr) (k : Nat) (h : k ≤ src.length) : (preU m src k).length = k + 1 := by unfold preU; simp; omega

set_option maxRecDepth 100000 in
set_option maxHeartbeats 4000000 in
theorem settled1_in (n : Nat) (hn : 1 ≤ n) (lp Bm Bp : Nat) (m : Ms) (sv : Value) (src : List Pr) (w : World) (hl : src.length ≤ 1000000000) (hz : SizeM m) (hk : ∀ x ∈ src, m.src.isPrefixOf x.1 = true ∧ x.1.length ≤ 1000000000)
    (hm : Blk w Bm 40 (encM m)) (hBp : Bp < w.heap.size) (hp : w.cell? ⟨Bp, 0, none⟩ = some sv) (hI : IsPairs w sv src) (J Jx : List Ms → World → Prop) (W : World) (hW : Below w.heap.size w W)
    (hJ : AbidesFrom W.heap.size J)
    (hY : ∀ pre x W1, J pre W1 → pre.length < (settledS m src).length → YieldAt Fence.wide (n - 1) Tryz.prog lp #[msgV x] W1 fun e W' =>
      (e = .returned (.bool true) ∧ J (pre ++ [x]) W' ∧ Below w.heap.size W1 W') ∨ (e = .returned (.bool false) ∧ Jx (pre ++ [x]) W')) (h0 : J [] W) :
    CallsIn Fence.wide n Tryz.prog 103 #[.func (.yield lp) #[] #[], .pointer (some ⟨Bm, 0, none⟩), .pointer (some ⟨Bp, 0, none⟩)] W fun e W' => (∃ v, e = .returned v) ∧
      ((∃ ys, ys = settledS m src ∧ J ys W') ∨ (∃ pre, True ∧ Jx pre W')) := by
  have mixed := mixedA
  have HJG : Hid (∀ s A B, J s A → Below A.heap.size A B → J s B) := Lib.hid (fun s A B h hb => hJ s A B none h (grownBy_belowU hb none) (fun r e => by cases e))
  have HJ0 := Lib.hid h0
  have HW := Lib.hid hW
  have HY := Lib.hid hY
  have hM : ∀ i x, (encM m)[i]? = some x → ∀ wx, Below w.heap.size w wx → wx.cell? ⟨Bm, i, none⟩ = some x := fun i x hi wx hx => (hm.below hx hm.lt).c0 i x hi
  have HC : Hid (∀ wx, Below w.heap.size w wx → (wx.cell? ⟨Bm, 0, none⟩ = some (.int .i64 m.kind)) ∧ (wx.cell? ⟨Bm, 1, none⟩ = some (.string (Str m.key))) ∧ (wx.cell? ⟨Bm, 2, none⟩ = some (.string (Str m.val))) ∧ (wx.cell? ⟨Bm, 3, none⟩ = some (.string (Str m.lo))) ∧ (wx.cell? ⟨Bm, 4, none⟩ = some (.string (Str m.hi))) ∧ (wx.cell? ⟨Bm, 5, none⟩ = some (.string (Str m.src))) ∧ (wx.cell? ⟨Bm, 6, none⟩ = some (.string (Str m.dst))) ∧ (wx.cell? ⟨Bm, 7, none⟩ = some (.int .i64 m.n))) :=
    Lib.hid (fun wx hx => ⟨hM 0 _ rfl _ hx, hM 1 _ rfl _ hx, hM 2 _ rfl _ hx, hM 3 _ rfl _ hx, hM 4 _ rfl _ hx, hM 5 _ rfl _ hx, hM 6 _ rfl _ hx, hM 7 _ rfl _ hx⟩)
  obtain ⟨b, off, cap, a, rfl, hlc, hcm, hab, hcell⟩ := hI.form
  unfold maxLen at hcm
  have HCE : Hid (∀ i (h : i < src.length), ∀ wx, Below w.heap.size w wx → a = some ⟨b, off, none⟩ ∧ wx.cell? ⟨b, off + i * 3, none⟩ = some (.string (Str src[i].1)) ∧ wx.cell? ⟨b, off + i * 3 + 1, none⟩ = some (.string (Str src[i].2.1)) ∧ wx.cell? ⟨b, off + i * 3 + 2, none⟩ = some (.int .i64 src[i].2.2)) := Lib.hid (fun i h wx hx => by
    obtain ⟨ha, h1, h2, h3⟩ := hcell i h
    obtain ⟨-, hb⟩ := hab (by rintro rfl; simp at h)
    exact ⟨ha, (hx.cell (p := ⟨b, off + i * 3, none⟩) hb).trans h1, (hx.cell (p := ⟨b, off + i * 3 + 1, none⟩) hb).trans h2, (hx.cell (p := ⟨b, off + i * 3 + 2, none⟩) hb).trans h3⟩)
  have HP : Hid (∀ wx, Below w.heap.size w wx → wx.cell? ⟨Bp, 0, none⟩ = some (.slice a src.length cap)) := Lib.hid (fun wx hx => (hx.cell (p := ⟨Bp, 0, none⟩) hBp).trans hp)
  have HK := Lib.hid hk
  have hz5 : m.src.length ≤ 140737488355328 := by have := hz.2.2.2.2.1; omega
  have hz6 : m.dst.length ≤ 140737488355328 := by have := hz.2.2.2.2.2; omega
  have hBm := hm.lt
  have hmv := fun wx => smoves_w m wx
  have HDs := Lib.hid (fun wx => sdrop_w m.src wx hz5)
  have HDd := Lib.hid (fun wx => sdrop_w m.dst wx hz6)
  have HMO := Lib.hid (fun x (hx : x ∈ src) wx => (movedV_yes (b := m.dst) (hk x hx).1) ▸ moved_w x.1 m.src m.dst wx (by have := (hk x hx).2; omega) hz6)
  obtain ⟨c0, c1, c2, c3, c4, c5, c6, c7⟩ := HC.out W hW
  clear hJ h0 hY hM hm hI hcell hab hp hk hz
  cases hmb : movesB m with
  | false =>
    rw [hmb] at hmv
    rw [settled_other hmb] at HY ⊢
    have HMV := Lib.hid hmv
    clear hmv hmb hz5 hz6 HDs HDd HMO HK HCE HP
    refine callsIn_of_wp Tryz.func103 rfl trivial ?_ rfl
    simp only [Tryz.ntmps103, List.size_toArray, List.length_cons, List.length_nil, Nat.reduceAdd, Nat.reduceSub, Array.replicate_succ, Array.replicate_zero, List.push_toArray, List.append_toArray, List.nil_append, List.cons_append]
    gi_wp2_with (first
      | (gi_at_call 73; go_must (refine (callsIn_wide.2 (HMV.out _)).mono ?_; rintro e w1 ⟨rfl, hg⟩; have hb1 := hg.below (Nat.le_refl W.heap.size); have hW1 := HW.out.trans (hb1.mono HW.out.size); obtain ⟨d0, d1, d2, d3, d4, d5, d6, d7⟩ := HC.out w1 hW1; obtain ⟨fn, tmps, assign, body, hy, hR⟩ := HY.out [] m w1 (HJG.out _ _ _ HJ0.out hb1) (by simp); clear hb1 hW1 hg))
      | (refine ⟨trivial, ?_⟩; gi_at_call 73; go_must (refine (callsIn_wide.2 (HMV.out _)).mono ?_; rintro e w1 ⟨rfl, hg⟩; have hb1 := hg.below (Nat.le_refl W.heap.size); have hW1 := HW.out.trans (hb1.mono HW.out.size); obtain ⟨d0, d1, d2, d3, d4, d5, d6, d7⟩ := HC.out w1 hW1; obtain ⟨fn, tmps, assign, body, hy, hR⟩ := HY.out [] m w1 (HJG.out _ _ _ HJ0.out hb1) (by simp); clear hb1 hW1 hg)))
    refine hR.mono ?_
    rintro e W3 (⟨rfl, hJ3, hk3⟩ | ⟨rfl, hJx3⟩)
    · gi_wp2
      refine bodyPost_ret (results_none rfl _ _ _) rfl ?_
      exact ⟨⟨_, rfl⟩, .inl ⟨_, rfl, hJ3⟩⟩
    · gi_wp2
      refine bodyPost_ret (results_none rfl _ _ _) rfl ?_
      exact ⟨⟨_, rfl⟩, .inr ⟨_, trivial, hJx3⟩⟩
  | true =>
    rw [hmb] at hmv
    rw [settled_moves hmb] at HY ⊢
    have HMV := Lib.hid hmv
    have HKD : Hid (m.kind = 4 ∨ m.kind = 5) := Lib.hid ((moves_iff m).1 hmb)
    have HLE : Hid ((dropM m.dst :: (src.map (putM m) ++ endM m)).length = src.length + 1 + (endM m).length) := Lib.hid (by simp; omega)
    clear hmv hmb hz5 hz6
    refine callsIn_of_wp Tryz.func103 rfl trivial ?_ rfl
    simp only [Tryz.ntmps103, List.size_toArray, List.length_cons, List.length_nil, Nat.reduceAdd, Nat.reduceSub, Array.replicate_succ, Array.replicate_zero, List.push_toArray, List.append_toArray, List.nil_append, List.cons_append]
    gi_wp2_with (first
      | (gi_at_call 73; go_must (refine (callsIn_wide.2 (HMV.out _)).mono ?_; rintro e w1 ⟨rfl, hg⟩; have HB1 := Lib.hid (HW.out.trans ((hg.below (Nat.le_refl W.heap.size)).mono HW.out.size)); have HJ1 := Lib.hid (HJG.out _ _ _ HJ0.out (hg.below (Nat.le_refl _))); obtain ⟨d0, d1, d2, d3, d4, d5, d6, d7⟩ := HC.out w1 HB1.out; clear hg))
      | (refine ⟨trivial, ?_⟩; gi_at_call 73; go_must (refine (callsIn_wide.2 (HMV.out _)).mono ?_; rintro e w1 ⟨rfl, hg⟩; have HB1 := Lib.hid (HW.out.trans ((hg.below (Nat.le_refl W.heap.size)).mono HW.out.size)); have HJ1 := Lib.hid (HJG.out _ _ _ HJ0.out (hg.below (Nat.le_refl _))); obtain ⟨d0, d1, d2, d3, d4, d5, d6, d7⟩ := HC.out w1 HB1.out; clear hg))
      | (gi_at_call 104; go_must (refine (callsIn_wide.2 (HDd.out _)).mono ?_; rintro e w2 ⟨rfl, hg⟩; have HB2 := Lib.hid (HB1.out.trans ((hg.below (Nat.le_refl w1.heap.size)).mono HB1.out.size)); obtain ⟨fn, tmps, assign, body, hy, hR⟩ := HY.out [] (dropM m.dst) w2 (HJG.out _ _ _ HJ1.out (hg.below (Nat.le_refl _))) (by simp); clear hg))
      | (refine ⟨trivial, ?_⟩; gi_at_call 104; go_must (refine (callsIn_wide.2 (HDd.out _)).mono ?_; rintro e w2 ⟨rfl, hg⟩; have HB2 := Lib.hid (HB1.out.trans ((hg.below (Nat.le_refl w1.heap.size)).mono HB1.out.size)); obtain ⟨fn, tmps, assign, body, hy, hR⟩ := HY.out [] (dropM m.dst) w2 (HJG.out _ _ _ HJ1.out (hg.below (Nat.le_refl _))) (by simp); clear hg)))
    refine hR.mono ?_
    rintro e W3 (⟨rfl, hJ3, hk3⟩ | ⟨rfl, hJx3⟩)
    rotate_left
    · gi_wp2
      refine bodyPost_ret (results_none rfl _ _ _) rfl ?_
      exact ⟨⟨_, rfl⟩, .inr ⟨_, trivial, hJx3⟩⟩
    have HB3 := Lib.hid (HB2.out.trans hk3)
    have HJ3 := Lib.hid hJ3
    have cp := HP.out W3 HB3.out
    clear hJ3 hk3 c0 c1 c2 c3 c4 c5 c6 c7 d0 d1 d2 d3 d4 d5 d6 d7 hy hR
    gi_wp2
    gi_loopw [22] (fun i wr => ∃ k : Nat, k ≤ src.length ∧ i = .int .i64 k ∧ J (preU m src k) wr ∧ Below w.heap.size w wr) (fun i _ => src.length - (intOf i).toNat)
    case atStart => exact ⟨0, Nat.zero_le _, rfl, by rw [preU_zero]; exact HJ3.out, HB3.out⟩
    case round =>
      obtain ⟨k, hk, rfl, hJk, hbk⟩ := hrel
      have HJK := Lib.hid hJk
      have HBK := Lib.hid hbk
      clear hJk hbk
      by_cases hlt : k < src.length
      · have hltz : (k : Int) < (src.length : Int) := by omega
        obtain ⟨rfl, p0, p1, p2⟩ := HCE.out k hlt wr HBK.out
        have HMK := Lib.hid (HMO.out src[k] (List.getElem_mem hlt))
        have HNX := Lib.hid (preU_succ m src k hlt)
        have hpl := preU_len m src k hk
        have hbs := HBK.out.size
        have hBr : Bm < wr.heap.size := by omega
        have hy6 := HY.out (preU m src k) (putM m src[k])
        rw [HLE.out, hpl] at hy6
        unfold putM keyT at hy6
        have HY6 := Lib.hid hy6
        clear hy6
        unfold putM keyT at HNX
        generalize src[k] = x at *
        obtain ⟨x1, x2, x3⟩ := x
        dsimp only at p0 p1 p2 HMK HY6 HNX
        generalize m.dst ++ x1.drop m.src.length = kx at *
        have hy6 := HY6.out
        rw [show msgV (⟨1, kx, x2, [], [], [], [], x3⟩ : Ms) = .agg #[.int .i64 1, .string (Str kx), .string (Str x2), .string ⟨#[]⟩, .string ⟨#[]⟩, .string ⟨#[]⟩, .string ⟨#[]⟩, .int .i64 x3] from rfl] at hy6
        replace HY6 := Lib.hid hy6
        clear hy6
        obtain ⟨q0, q1, q2, q3, q4, q5, q6, q7⟩ := HC.out wr HBK.out
        gi_wp2_with (first
          | (gi_at_call 105; go_must (refine (callsIn_wide.2 (HMK.out _)).mono ?_; rintro e w6 ⟨rfl, hg⟩; obtain ⟨z0, z1, z2, -⟩ := (hg.blk (Blk.new' (n := wr.heap.size) _ _ _ rfl)).threeU; have hb6 := (below_box _).trans ((hg.below (Nat.le_refl _)).mono (by simp)); have HB6 := Lib.hid (HBK.out.trans (hb6.mono HBK.out.size)); obtain ⟨fn, tmps, assign, body, hy, hR⟩ := HY6.out w6 (HJG.out _ _ _ HJK.out hb6) (by omega); clear hg hb6))
          | (refine ⟨trivial, ?_⟩; gi_at_call 105; go_must (refine (callsIn_wide.2 (HMK.out _)).mono ?_; rintro e w6 ⟨rfl, hg⟩; obtain ⟨z0, z1, z2, -⟩ := (hg.blk (Blk.new' (n := wr.heap.size) _ _ _ rfl)).threeU; have hb6 := (below_box _).trans ((hg.below (Nat.le_refl _)).mono (by simp)); have HB6 := Lib.hid (HBK.out.trans (hb6.mono HBK.out.size)); obtain ⟨fn, tmps, assign, body, hy, hR⟩ := HY6.out w6 (HJG.out _ _ _ HJK.out hb6) (by omega); clear hg hb6)))
        refine hR.mono ?_
        rintro e W7 (⟨rfl, hJ7, hk7⟩ | ⟨rfl, hJx7⟩)
        · have HB7 := Lib.hid (HB6.out.trans hk7)
          have HJ7 := Lib.hid hJ7
          clear hJ7 hk7
          gi_wp2
          go_roundw
          case rel => exact ⟨k + 1, by omega, by go_num, by rw [HNX.out]; exact HJ7.out, HB7.out⟩
          case measure => simp [intOf]; omega
        · gi_wp2
          refine bodyPost_ret (results_none rfl _ _ _) rfl ?_
          exact ⟨⟨_, rfl⟩, .inr ⟨_, trivial, hJx7⟩⟩
      · obtain rfl : k = src.length := by omega
        have HPE : Hid (preU m src src.length = dropM m.dst :: src.map (putM m)) := Lib.hid (by unfold preU; rw [List.take_length])
        obtain ⟨q0, q1, q2, q3, q4, q5, q6, q7⟩ := HC.out wr HBK.out
        rcases HKD.out with h4 | h4
        · have HEN : Hid (endM m = [dropM m.src]) := Lib.hid (by unfold endM; rw [if_pos h4])
          have hpl := preU_len m src src.length (Nat.le_refl _)
          have hy6 := HY.out (preU m src src.length) (dropM m.src)
          rw [HLE.out, hpl, HEN.out] at hy6
          have HY6 := Lib.hid hy6
          clear hy6 hpl
          rw [h4] at q0
          clear h4
          gi_wp2_with (first
            | (gi_at_call 104; go_must (refine (callsIn_wide.2 (HDs.out _)).mono ?_; rintro e w6 ⟨rfl, hg⟩; have hb6 := hg.below (Nat.le_refl wr.heap.size); have HB6 := Lib.hid (HBK.out.trans (hb6.mono HBK.out.size)); obtain ⟨fn, tmps, assign, body, hy, hR⟩ := HY6.out w6 (HJG.out _ _ _ HJK.out hb6) (by simp); clear hg hb6))
            | (refine ⟨trivial, ?_⟩; gi_at_call 104; go_must (refine (callsIn_wide.2 (HDs.out _)).mono ?_; rintro e w6 ⟨rfl, hg⟩; have hb6 := hg.below (Nat.le_refl wr.heap.size); have HB6 := Lib.hid (HBK.out.trans (hb6.mono HBK.out.size)); obtain ⟨fn, tmps, assign, body, hy, hR⟩ := HY6.out w6 (HJG.out _ _ _ HJK.out hb6) (by simp); clear hg hb6)))
          refine hR.mono ?_
          rintro e W7 (⟨rfl, hJ7, hk7⟩ | ⟨rfl, hJx7⟩)
          · gi_wp2
            go_end0
            refine ⟨⟨_, rfl⟩, .inl ⟨_, ?_, hJ7⟩⟩
            rw [HPE.out, HEN.out, List.cons_append]
          · gi_wp2
            go_end0
            exact ⟨⟨_, rfl⟩, .inr ⟨_, trivial, hJx7⟩⟩
        · have HEN : Hid (endM m = []) := Lib.hid (by unfold endM; rw [if_neg (by omega)])
          rw [h4] at q0
          clear h4
          gi_wp2
          go_end0
          refine ⟨⟨_, rfl⟩, .inl ⟨_, ?_, HJK.out⟩⟩
          rw [HPE.out, HEN.out, List.append_nil]

end Go.Proofs.YtfpcaoacbjhkgaaGreat
