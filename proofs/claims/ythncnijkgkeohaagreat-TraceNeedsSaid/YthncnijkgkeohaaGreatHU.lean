/-
  Walks: the iterator of slices.Backward at a list of messages.
-/
import Derived.RangeFuncNested
import Derived.RangeFuncBound
import Derived.RangeFuncCalls
import Derived.RangeFuncLeaves
import Derived.Shelf.Abstract
import Derived.Shelf.RegionOpen
import Derived.WalkKit
import Derived.OwnWalkIn
import Derived.TacticsInMore
import Derived.LoopNIn
import Derived.LoopIn
import Derived.Test.YthncnijkgkeohaaGreatHQ4
import Derived.Test.YthncnijkgkeohaaGreatMDH
namespace Go.Proofs.YthncnijkgkeohaaGreat
open Go.RowKit Go.Sort Go.Shelf
set_option linter.unusedVariables false
attribute [local go_sem] Oper.semAt_some

/-- A message that is valid, and whose parts are not too long. -/
def Ok (m : Ms) : Prop := SizeM m ∧ validM m = true
abbrev Mo := { m : Ms // Ok m }
instance : Inhabited Mo := ⟨⟨⟨2, [97], [], [], [], [], [], 0⟩, by unfold SizeM; decide, by decide⟩⟩
/-- What has come when k rounds are over, the last message first. -/
def backM (l : List Mo) (k : Nat) : List (Int × Mo) := (List.range k).map fun (j : Nat) => ((l.length : Int) - 1 - j, l.reverse[j]?.getD default)
theorem backM_succ (l : List Mo) (k : Nat) : backM l (k + 1) = backM l k ++ [((l.length : Int) - 1 - k, l.reverse[k]?.getD default)] := by simp [backM, List.range_succ]
theorem backM_length (l : List Mo) (k : Nat) : (backM l k).length = k := by simp [backM]
theorem backM_take (l : List Mo) (k : Nat) (hk : k ≤ l.length) : (backM l k).map (·.2) = l.reverse.take k := by
  apply List.ext_getElem
  · simp [backM]; omega
  · intro i h1 h2
    have : i < l.reverse.length := by simp [backM] at h1; simp; omega
    simp [backM]
    rw [List.getElem?_eq_getElem this, Option.getD_some, List.getElem_reverse]

set_option maxRecDepth 100000 in
set_option maxHeartbeats 2000000 in
theorem back1_in (F : Fence) (n : Nat) (hF : F.fn 92) (hro : F.round = none) (hn : 1 ≤ n) (lp Bs n₀ b off cap : Nat) (l : List Mo) (hl : l.length ≤ 1000000000) (hb : b < n₀) (J Jx : List (Int × Mo) → World → Prop)
    (Kp : World → World → Prop) (hK0 : ∀ A, Kp A A) (hKt : ∀ A B C, Kp A B → Kp B C → Kp A C) (hKp : ∀ A B, Kp A B → Below n₀ A B ∧ B.heap[Bs]? = A.heap[Bs]?)
    (hY : ∀ pre x W, J pre W → pre.length < l.length → YieldAt F (n - 1) Tryz.prog lp #[.int .i64 x.1, msgV x.2.1] W fun e W' =>
      (e = .returned (.bool true) ∧ J (pre ++ [x]) W' ∧ Kp W W') ∨ (e = .returned (.bool false) ∧ Jx (pre ++ [x]) W'))
    (W : World) (hBs : W.cell? ⟨Bs, 0, none⟩ = some (.slice (some ⟨b, off, none⟩) l.length cap)) (hc : ∀ i (h : i < l.length), MAt W b (off + i * 8) l[i].1) (h0 : J [] W) :
    CallsIn F n Tryz.prog 92 #[.func (.yield lp) #[] #[], .pointer (some ⟨Bs, 0, none⟩)] W fun e W' => (∃ v, e = .returned v) ∧
      ((∃ ys, ys = backM l l.length ∧ J ys W') ∨ (∃ pre, (∃ k, k ≤ l.length ∧ pre = backM l k) ∧ Jx pre W')) := by
  refine callsIn_of_wp Tryz.func92 rfl hF ?_ hro
  simp only [Tryz.ntmps92, List.size_toArray, List.length_cons, List.length_nil, Nat.reduceAdd, Nat.reduceSub, Array.replicate_succ, Array.replicate_zero, List.push_toArray, List.append_toArray, List.nil_append, List.cons_append]
  gi_wp2
  gi_loopw [3] (fun i wr => ∃ k : Nat, k ≤ l.length ∧ i = .int .i64 ((l.length : Int) - 1 - k) ∧ J (backM l k) wr ∧ Kp W wr)
    (fun i _ => (intOf i + 1).toNat)
  case atStart => exact ⟨0, Nat.zero_le _, by simp, h0, hK0 _⟩
  case round =>
    obtain ⟨k, hk, rfl, hJs, hnx⟩ := hrel
    obtain ⟨hbl, hbs⟩ := hKp _ _ hnx
    have hcs : wr.cell? ⟨Bs, 0, none⟩ = some (.slice (some ⟨b, off, none⟩) l.length cap) := (World.cell?_of_block (a := ⟨Bs, 0, none⟩) hbs).trans hBs
    by_cases hlt : k < l.length
    · obtain ⟨i, hi, hil⟩ : ∃ i : Nat, (l.length : Int) - 1 - k = i ∧ i < l.length := ⟨l.length - 1 - k, by omega, by omega⟩
      have hx : l.reverse[k]?.getD default = l[i] := by
        rw [List.getElem?_eq_getElem (by simpa using hlt), Option.getD_some, List.getElem_reverse]
        congr 1
        omega
      have HS := Lib.hid (backM_succ l k)
      rw [hi, hx] at HS
      have hm := (hc i hil).below hbl hb
      obtain ⟨fn, tmps, assign, body, hy, hR⟩ := hY _ ((i : Int), l[i]) wr hJs (by rw [backM_length]; exact hlt)
      dsimp only at hy
      generalize l[i] = x at *
      have hilz : (i : Int) < (l.length : Int) := by omega
      obtain ⟨c0, c1, c2, c3, c4, c5, c6, c7⟩ := hm
      rw [hi]
      gi_wp2
      refine hR.mono ?_
      rintro e W3 (⟨rfl, hJ3, hk3⟩ | ⟨rfl, hJx3⟩)
      · gi_wp2
        go_roundw
        case rel => exact ⟨k + 1, by omega, by rw [show (l.length : Int) - 1 - ((k + 1 : Nat) : Int) = (i : Int) - 1 by omega], by rw [HS.out]; exact hJ3, hKt _ _ _ hnx hk3⟩
        case measure => simp [intOf]
      · gi_wp2
        refine bodyPost_ret (results_none rfl _ _ _) rfl ?_
        exact ⟨⟨_, rfl⟩, .inr ⟨_, ⟨k + 1, by omega, HS.out.symm⟩, hJx3⟩⟩
    · obtain rfl : k = l.length := by omega
      have e : (l.length : Int) - 1 - (l.length : Int) = -1 := by omega
      rw [e]
      gi_wp2
      go_end0
      exact ⟨⟨_, rfl⟩, .inl ⟨_, rfl, hJs⟩⟩

set_option maxRecDepth 100000 in
set_option maxHeartbeats 1000000 in
theorem back1_nil (F : Fence) (n : Nat) (hF : F.fn 92) (hro : F.round = none) (lp Bs : Nat) (a : Option Addr) (cap : Nat) (J : List (Int × Mo) → World → Prop) (W : World) (hBs : W.cell? ⟨Bs, 0, none⟩ = some (.slice a 0 cap)) (h0 : J [] W) :
    CallsIn F n Tryz.prog 92 #[.func (.yield lp) #[] #[], .pointer (some ⟨Bs, 0, none⟩)] W fun e W' => (∃ v, e = .returned v) ∧ J [] W' := by
  refine callsIn_of_wp Tryz.func92 rfl hF ?_ hro
  simp only [Tryz.ntmps92, List.size_toArray, List.length_cons, List.length_nil, Nat.reduceAdd, Nat.reduceSub, Array.replicate_succ, Array.replicate_zero, List.push_toArray, List.append_toArray, List.nil_append, List.cons_append]
  gi_wp2
  gi_loopw [3] (fun i wr => i = .int .i64 (-1) ∧ J [] wr) (fun _ _ => 0)
  case atStart => exact ⟨by simp, h0⟩
  case round =>
    obtain ⟨rfl, hJs⟩ := hrel
    gi_wp2
    go_end0
    exact ⟨⟨_, rfl⟩, hJs⟩
set_option maxHeartbeats 1000000 in
theorem bwd_in (F : Fence) (n : Nat) (hF : F.fn 45) (hro : F.round = none) (a : Option Addr) (len cap : Nat) (w : World) :
    CallsIn F n Tryz.prog 45 #[.slice a len cap] w fun e w' => e = .returned (.func (.func 92) #[] #[.pointer (some ⟨w.heap.size, 0, none⟩)]) ∧ w' = w.alloc (.cells #[.slice a len cap] 25) := by
  refine callsIn_of_wp Tryz.func45 rfl hF ?_ hro
  simp only [Tryz.ntmps45, List.size_toArray, List.length_cons, List.length_nil, Nat.reduceAdd, Nat.reduceSub, Array.replicate_succ, Array.replicate_zero, List.push_toArray, List.append_toArray, List.nil_append, List.cons_append]
  gi_wp2
  go_ret
  exact ⟨rfl, rfl⟩
/-- What a round of Live keeps: all below n₀, and the iterator's own box. -/
def KpB (n₀ Bs : Nat) (A B : World) : Prop := Below n₀ A B ∧ B.heap[Bs]? = A.heap[Bs]?
theorem KpB.refl (n₀ Bs : Nat) (A : World) : KpB n₀ Bs A A := ⟨Below.refl _ _, rfl⟩
theorem KpB.trans {n₀ Bs : Nat} {A B C : World} (h : KpB n₀ Bs A B) (k : KpB n₀ Bs B C) : KpB n₀ Bs A C := ⟨h.1.trans k.1, k.2.trans h.2⟩
theorem back_stops (F : Fence) (n : Nat) (hF : F.fn 92) (hro : F.round = none) (hn : 1 ≤ n) (Bs n₀ : Nat) (sv : Value) (l : List Mo) (hl : l.length ≤ 1000000000) (w0 w : World) (hBs : Bs < w.heap.size) (hn₀ : n₀ ≤ w.heap.size)
    (hc : w.cell? ⟨Bs, 0, none⟩ = some sv) (hI : IsMsgs w0 sv (l.map (·.1))) (h0 : w0.heap.size ≤ n₀) (hw : Below n₀ w0 w) :
    SeqStopsK F n Tryz.prog 92 #[.pointer (some ⟨Bs, 0, none⟩)] (fun x : Int × Mo => #[.int .i64 x.1, msgV x.2.1]) (KpB n₀ Bs) (fun ys => ys = backM l l.length) (fun pre => ∃ k, k ≤ l.length ∧ pre = backM l k) l.length w := fun lp J Jx W hW _ _ hY hJ0 => by
  have hc' := (hW.cell (p := ⟨Bs, 0, none⟩) hBs).trans hc
  have hwW : Below n₀ w0 W := hw.trans (hW.mono hn₀)
  obtain ⟨a, cap, rfl, h1, h2, h3⟩ := hI
  rw [List.length_map] at hc'
  by_cases hl0 : l = []
  · subst hl0
    exact (back1_nil F n hF hro lp Bs a cap J W hc' hJ0).mono fun e W' ⟨he, hj⟩ => ⟨he, .inl ⟨_, rfl, hj⟩⟩
  · obtain ⟨b, off, rfl, hb, hm⟩ := h3 (fun e => hl0 (List.map_eq_nil_iff.1 e))
    exact back1_in F n hF hro hn lp Bs n₀ b off cap l hl (by omega) J Jx (KpB n₀ Bs) (KpB.refl _ _) (fun _ _ _ h k => h.trans k) (fun _ _ h => h) hY W hc' (fun i hi => by have h5 := (hm i (by rw [List.length_map]; exact hi)).below hwW (by omega); rw [List.getElem_map] at h5; exact h5) hJ0

end Go.Proofs.YthncnijkgkeohaaGreat
