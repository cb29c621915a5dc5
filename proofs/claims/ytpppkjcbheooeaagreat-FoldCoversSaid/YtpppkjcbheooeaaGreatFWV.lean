/-
  Walks: the iterator of slices.Backward at a list of messages. Walks: slices.Reverse at a row of messages. Walks: Live (draft).
-/
import Derived.RangeFuncNested
import Derived.RangeFuncBound
import Derived.RangeFuncCalls
import Derived.RangeFuncLeaves
import Derived.Shelf.Abstract
import Derived.Shelf.RegionOpen
import Derived.WalkKit
import Derived.OwnWalkIn
import Derived.TacticsInMore
import Derived.LoopNIn
import Derived.LoopIn
import Derived.Test.YtpppkjcbheooeaaGreatFOT
import Derived.Test.YtpppkjcbheooeaaGreatMDH
import Derived.Test.YtpppkjcbheooeaaGreatNQJ
import Derived.Test.YtpppkjcbheooeaaGreatSh5
import Derived.Test.YtpppkjcbheooeaaGreatFGJ
import Derived.Laws.OwnMore
import Derived.Sort.CutIn
import Derived.Stop.RegionWithIn
namespace Go.Proofs.YtpppkjcbheooeaaGreat
open Go.RowKit Go.Sort Go.Shelf
set_option linter.unusedVariables false
attribute [local go_sem] Oper.semAt_some

/-- A message whose parts are not too long, and which writes no empty span. -/
def Ok (m : Ms) : Prop := SizeM m ∧ ∀ s ∈ writesS m, emptyB s = false
abbrev Mo := { m : Ms // Ok m }
instance : Inhabited Mo := ⟨⟨⟨0, [], [], [], [], [], [], 0⟩, by unfold SizeM; decide, by decide⟩⟩
/-- What has come when k rounds are over, the last message first. -/
def backM (l : List Mo) (k : Nat) : List (Int × Mo) := (List.range k).map fun (j : Nat) => ((l.length : Int) - 1 - j, l.reverse[j]?.getD default)
theorem backM_succ (l : List Mo) (k : Nat) : backM l (k + 1) = backM l k ++ [((l.length : Int) - 1 - k, l.reverse[k]?.getD default)] := by simp [backM, List.range_succ]
theorem backM_length (l : List Mo) (k : Nat) : (backM l k).length = k := by simp [backM]
theorem backM_take (l : List Mo) (k : Nat) (hk : k ≤ l.length) : (backM l k).map (·.2) = l.reverse.take k := by
  apply List.ext_getElem
  · simp [backM]; omega
  · intro i h1 h2
    have : i < l.reverse.length := by simp [backM] at h1; simp; omega
    simp [backM]
    rw [List.getElem?_eq_getElem this, Option.getD_some, List.getElem_reverse]

set_option maxRecDepth 100000 in
set_option maxHeartbeats 2000000 in
theorem back1_in (F : Fence) (n : Nat) (hF : F.fn 84) (hro : F.round = none) (hn : 1 ≤ n) (lp Bs n₀ b off cap : Nat) (l : List Mo) (hl : l.length ≤ 1000000000) (hb : b < n₀) (J Jx : List (Int × Mo) → World → Prop)
    (Kp : World → World → Prop) (hK0 : ∀ A, Kp A A) (hKt : ∀ A B C, Kp A B → Kp B C → Kp A C) (hKp : ∀ A B, Kp A B → Below n₀ A B ∧ B.heap[Bs]? = A.heap[Bs]?)
    (hY : ∀ pre x W, J pre W → pre.length < l.length → YieldAt F (n - 1) Tryz.prog lp #[.int .i64 x.1, msgV x.2.1] W fun e W' =>
      (e = .returned (.bool true) ∧ J (pre ++ [x]) W' ∧ Kp W W') ∨ (e = .returned (.bool false) ∧ Jx (pre ++ [x]) W'))
    (W : World) (hBs : W.cell? ⟨Bs, 0, none⟩ = some (.slice (some ⟨b, off, none⟩) l.length cap)) (hc : ∀ i (h : i < l.length), MAt W b (off + i * 8) l[i].1) (h0 : J [] W) :
    CallsIn F n Tryz.prog 84 #[.func (.yield lp) #[] #[], .pointer (some ⟨Bs, 0, none⟩)] W fun e W' => (∃ v, e = .returned v) ∧
      ((∃ ys, ys = backM l l.length ∧ J ys W') ∨ (∃ pre, (∃ k, k ≤ l.length ∧ pre = backM l k) ∧ Jx pre W')) := by
  refine callsIn_of_wp Tryz.func84 rfl hF ?_ hro
  simp only [Tryz.ntmps84, List.size_toArray, List.length_cons, List.length_nil, Nat.reduceAdd, Nat.reduceSub, Array.replicate_succ, Array.replicate_zero, List.push_toArray, List.append_toArray, List.nil_append, List.cons_append]
  gi_wp2
  gi_loopw [3] (fun i wr => ∃ k : Nat, k ≤ l.length ∧ i = .int .i64 ((l.length : Int) - 1 - k) ∧ J (backM l k) wr ∧ Kp W wr)
    (fun i _ => (intOf i + 1).toNat)
  case atStart => exact ⟨0, Nat.zero_le _, by simp, h0, hK0 _⟩
  case round =>
    obtain ⟨k, hk, rfl, hJs, hnx⟩ := hrel
    obtain ⟨hbl, hbs⟩ := hKp _ _ hnx
    have hcs : wr.cell? ⟨Bs, 0, none⟩ = some (.slice (some ⟨b, off, none⟩) l.length cap) := (World.cell?_of_block (a := ⟨Bs, 0, none⟩) hbs).trans hBs
    by_cases hlt : k < l.length
    · obtain ⟨i, hi, hil⟩ : ∃ i : Nat, (l.length : Int) - 1 - k = i ∧ i < l.length := ⟨l.length - 1 - k, by omega, by omega⟩
      have hx : l.reverse[k]?.getD default = l[i] := by
        rw [List.getElem?_eq_getElem (by simpa using hlt), Option.getD_some, List.getElem_reverse]
        congr 1
        omega
      have HS := Lib.hid (backM_succ l k)
      rw [hi, hx] at HS
      have hm := (hc i hil).below hbl hb
      obtain ⟨fn, tmps, assign, body, hy, hR⟩ := hY _ ((i : Int), l[i]) wr hJs (by rw [backM_length]; exact hlt)
      dsimp only at hy
      generalize l[i] = x at *
      have hilz : (i : Int) < (l.length : Int) := by omega
      obtain ⟨c0, c1, c2, c3, c4, c5, c6, c7⟩ := hm
      rw [hi]
      gi_wp2
      refine hR.mono ?_
      rintro e W3 (⟨rfl, hJ3, hk3⟩ | ⟨rfl, hJx3⟩)
      · gi_wp2
        go_roundw
        case rel => exact ⟨k + 1, by omega, by rw [show (l.length : Int) - 1 - ((k + 1 : Nat) : Int) = (i : Int) - 1 by omega], by rw [HS.out]; exact hJ3, hKt _ _ _ hnx hk3⟩
        case measure => simp [intOf]
      · gi_wp2
        refine bodyPost_ret (results_none rfl _ _ _) rfl ?_
        exact ⟨⟨_, rfl⟩, .inr ⟨_, ⟨k + 1, by omega, HS.out.symm⟩, hJx3⟩⟩
    · obtain rfl : k = l.length := by omega
      have e : (l.length : Int) - 1 - (l.length : Int) = -1 := by omega
      rw [e]
      gi_wp2
      go_end0
      exact ⟨⟨_, rfl⟩, .inl ⟨_, rfl, hJs⟩⟩

set_option maxRecDepth 100000 in
set_option maxHeartbeats 1000000 in
theorem back1_nil (F : Fence) (n : Nat) (hF : F.fn 84) (hro : F.round = none) (lp Bs : Nat) (a : Option Addr) (cap : Nat) (J : List (Int × Mo) → World → Prop) (W : World) (hBs : W.cell? ⟨Bs, 0, none⟩ = some (.slice a 0 cap)) (h0 : J [] W) :
    CallsIn F n Tryz.prog 84 #[.func (.yield lp) #[] #[], .pointer (some ⟨Bs, 0, none⟩)] W fun e W' => (∃ v, e = .returned v) ∧ J [] W' := by
  refine callsIn_of_wp Tryz.func84 rfl hF ?_ hro
  simp only [Tryz.ntmps84, List.size_toArray, List.length_cons, List.length_nil, Nat.reduceAdd, Nat.reduceSub, Array.replicate_succ, Array.replicate_zero, List.push_toArray, List.append_toArray, List.nil_append, List.cons_append]
  gi_wp2
  gi_loopw [3] (fun i wr => i = .int .i64 (-1) ∧ J [] wr) (fun _ _ => 0)
  case atStart => exact ⟨by simp, h0⟩
  case round =>
    obtain ⟨rfl, hJs⟩ := hrel
    gi_wp2
    go_end0
    exact ⟨⟨_, rfl⟩, hJs⟩
set_option maxHeartbeats 1000000 in
theorem back_in (F : Fence) (n : Nat) (hF : F.fn 65) (hro : F.round = none) (a : Option Addr) (len cap : Nat) (w : World) :
    CallsIn F n Tryz.prog 65 #[.slice a len cap] w fun e w' => e = .returned (.func (.func 84) #[] #[.pointer (some ⟨w.heap.size, 0, none⟩)]) ∧ w' = w.alloc (.cells #[.slice a len cap] 45) := by
  refine callsIn_of_wp Tryz.func65 rfl hF ?_ hro
  simp only [Tryz.ntmps65, List.size_toArray, List.length_cons, List.length_nil, Nat.reduceAdd, Nat.reduceSub, Array.replicate_succ, Array.replicate_zero, List.push_toArray, List.append_toArray, List.nil_append, List.cons_append]
  gi_wp2
  go_ret
  exact ⟨rfl, rfl⟩
/-- What a round of Live keeps: all below n₀, and the iterator's own box. -/
def KpB (n₀ Bs : Nat) (A B : World) : Prop := Below n₀ A B ∧ B.heap[Bs]? = A.heap[Bs]?
theorem KpB.refl (n₀ Bs : Nat) (A : World) : KpB n₀ Bs A A := ⟨Below.refl _ _, rfl⟩
theorem KpB.trans {n₀ Bs : Nat} {A B C : World} (h : KpB n₀ Bs A B) (k : KpB n₀ Bs B C) : KpB n₀ Bs A C := ⟨h.1.trans k.1, k.2.trans h.2⟩
theorem back_stops (F : Fence) (n : Nat) (hF : F.fn 84) (hro : F.round = none) (hn : 1 ≤ n) (Bs n₀ : Nat) (sv : Value) (l : List Mo) (hl : l.length ≤ 1000000000) (w0 w : World) (hBs : Bs < w.heap.size) (hn₀ : n₀ ≤ w.heap.size)
    (hc : w.cell? ⟨Bs, 0, none⟩ = some sv) (hI : IsMsgs w0 sv (l.map (·.1))) (h0 : w0.heap.size ≤ n₀) (hw : Below n₀ w0 w) :
    SeqStopsK F n Tryz.prog 84 #[.pointer (some ⟨Bs, 0, none⟩)] (fun x : Int × Mo => #[.int .i64 x.1, msgV x.2.1]) (KpB n₀ Bs) (fun ys => ys = backM l l.length) (fun pre => ∃ k, k ≤ l.length ∧ pre = backM l k) l.length w := fun lp J Jx W hW _ _ hY hJ0 => by
  have hc' := (hW.cell (p := ⟨Bs, 0, none⟩) hBs).trans hc
  have hwW : Below n₀ w0 W := hw.trans (hW.mono hn₀)
  obtain ⟨a, cap, rfl, h1, h2, h3⟩ := hI
  rw [List.length_map] at hc'
  by_cases hl0 : l = []
  · subst hl0
    exact (back1_nil F n hF hro lp Bs a cap J W hc' hJ0).mono fun e W' ⟨he, hj⟩ => ⟨he, .inl ⟨_, rfl, hj⟩⟩
  · obtain ⟨b, off, rfl, hb, hm⟩ := h3 (fun e => hl0 (List.map_eq_nil_iff.1 e))
    exact back1_in F n hF hro hn lp Bs n₀ b off cap l hl (by omega) J Jx (KpB n₀ Bs) (KpB.refl _ _) (fun _ _ _ h k => h.trans k) (fun _ _ h => h) hY W hc' (fun i hi => by have h5 := (hm i (by rw [List.length_map]; exact hi)).below hwW (by omega); rw [List.getElem_map] at h5; exact h5) hJ0

end Go.Proofs.YtpppkjcbheooeaaGreat
namespace Go.Proofs.YtpppkjcbheooeaaGreat
open Go.RowKit Go.Sort Go.Shelf
set_option linter.unusedVariables false

deriving instance Inhabited for Ms
theorem flatM_at (l : List Ms) (t : Nat) (h : t < l.length * 8) : (l.flatMap encML)[t]? = some ((encML l.toArray[t / 8]!)[t % 8]!) := by
  have h1 : t / 8 < l.length := by omega
  have h2 := flatM_get l (t / 8) (t % 8) h1 (by omega)
  rw [show t / 8 * 8 + t % 8 = t by omega] at h2
  rw [h2]
  have h3 : l.toArray[t / 8]! = l[t / 8] := by rw [getElem!_pos l.toArray (t / 8) (by simpa using h1)]; simp
  rw [h3]
  have h4 : t % 8 < (encML l[t / 8]).length := by simp [encML]; omega
  rw [List.getElem?_eq_getElem h4]
  exact congrArg some (getElem!_pos (encML l[t / 8]) (t % 8) h4).symm
set_option maxHeartbeats 2000000 in
theorem reverse_w (base : Nat) (v : Value) (d : List Ms) (w : World) (hown : OwnM w base v d) (hd : d.length ≤ 1000000000) :
    Calls Tryz.prog 69 #[v] w fun e w' => e = .returned (.tuple #[]) ∧ OwnM w' base v d.reverse ∧ w.grownBy w' v.ownBlock := by
  unfold OwnM at *
  by_cases h0 : d = []
  · subst h0
    obtain ⟨p, cap, rfl⟩ : ∃ p cap, v = .slice p 0 cap := by
      rcases hown.2 with ⟨rfl, _⟩ | ⟨g, cap, cur, rfl, _⟩
      · exact ⟨_, _, rfl⟩
      · exact ⟨_, _, rfl⟩
    have h := AnyQ.slices_Reverse_empty Tryz.revL p cap w
    change Calls Tryz.prog 69 _ _ _ at h
    refine h.mono fun e w' ⟨he, hw⟩ => ⟨he, ?_, ?_⟩
    · rw [hw]; exact hown
    · rw [hw]; exact grownBy_refl _ _
  · rcases hown.2 with ⟨rfl, h1⟩ | ⟨g, cap, cur, rfl, hb, hg, hn, hm, hsz, htk⟩
    · exact absurd (List.length_eq_zero_iff.1 h1) h0
    · have hgl : g < w.heap.size := by rw [Array.getElem?_eq_some_iff] at hg; exact hg.1
      have hH : HoldsK encML 8 w g 0 d.toArray := by
        intro j hj
        rw [size_flatK] at hj
        have hj' : j < d.length * 8 := by simpa using hj
        rw [get_flatK _ _ _ _ hj]
        have hcell : w.cell? ⟨g, 0 + j, none⟩ = some ((encML d.toArray[j / 8]!)[j % 8]!) := by
          rw [Nat.zero_add]
          unfold World.cell?
          simp only
          rw [hg]
          show cur[j]? = _
          have h2 := flatM_at d j hj'
          rw [← htk, List.getElem?_take, if_pos hj', Array.getElem?_toList] at h2
          exact h2
        refine ⟨?_, ?_⟩
        · rw [hcell]; rfl
        · unfold World.frozen?; simp only; rw [hg]; simp
      have hcon := AnyQ.slices_Reverse Tryz.revL 8 Tryz.isAgg25 Tryz.sizeOf25 encML (fun _ => rfl) (fun x u hu => flatM_one [x] u (by simpa using hu)) g 0 cap d.toArray w hH (by simp; omega)
      change Calls Tryz.prog 69 _ _ _ at hcon
      refine hcon.mono fun e w' ⟨he, n, hw⟩ => ?_
      have hblk : w'.heap[g]? = some (.cells (putCells id 0 (flatK encML 8 d.toArray.reverse) cur) 25 (0, 0)) := by
        rw [hw]
        show (w.heap.modify g (onCells (putCells id 0 (flatK encML 8 d.toArray.reverse))))[g]? = _
        rw [Array.getElem?_modify, if_pos rfl, hg]
        rfl
      have hoth : ∀ k, k ≠ g → w'.heap[k]? = w.heap[k]? := by
        intro k hk
        rw [hw]
        show (w.heap.modify g (onCells (putCells id 0 (flatK encML 8 d.toArray.reverse))))[k]? = _
        rw [Array.getElem?_modify, if_neg (Ne.symm hk)]
      have hda : d.toArray.reverse = d.reverse.toArray := by simp
      rw [hda] at hblk
      have hrl : d.reverse.length = d.length := List.length_reverse ..
      refine ⟨he, ⟨flatM_len _, .inr ⟨g, cap, _, by rw [hrl], hb, hblk, by rw [hrl]; exact hn, hm, by simp [putCells]; exact hsz, ?_⟩⟩, ?_⟩
      · apply List.ext_getElem?
        intro j
        rw [List.getElem?_take]
        by_cases hj : j < d.reverse.length * 8
        · rw [if_pos hj, flatM_at _ _ hj, Array.getElem?_toList]
          have hjc : j < cur.size := by rw [hsz]; have := Nat.mul_le_mul_right 8 hn; omega
          have hjf : j < d.reverse.toArray.size * 8 := by simpa using hj
          have : (putCells id 0 (flatK encML 8 d.reverse.toArray) cur)[j]? = some ((flatK encML 8 d.reverse.toArray)[j]!) := by
            unfold putCells
            rw [Array.getElem?_mapIdx, Array.getElem?_eq_getElem hjc]
            simp only [Option.map_some]
            rw [if_pos ⟨Nat.zero_le _, by rw [size_flatK]; omega⟩]
            rfl
          rw [this, get_flatK _ _ _ _ hjf]
        · rw [if_neg hj]
          rw [List.getElem?_eq_none (by rw [flatM_len]; omega)]
      · refine ⟨by rw [hw]; rfl, by rw [hw]; rfl, by rw [hw]; rfl, ?_, fun k hk hne => hoth k (fun e => hne (by rw [e]; rfl))⟩
        rw [hw]
        show w.heap.size ≤ (w.heap.modify g (onCells (putCells id 0 (flatK encML 8 d.toArray.reverse)))).size
        simp

end Go.Proofs.YtpppkjcbheooeaaGreat
namespace Go.Proofs.YtpppkjcbheooeaaGreat
open Go.RowKit Go.Sort Go.Shelf
set_option linter.unusedVariables false
attribute [local go_sem] Oper.semAt_some

/-- One message more, the last first: those that stay, and the keys that are dead before them. -/
def stepL (st : List Ms × List Sp) (m : Ms) : List Ms × List Sp := if liveB st.2 (writesS m) then (st.1 ++ [m], nextD st.2 m) else st
theorem foldB_left (r : List Ms) (d : List Sp) (acc : List Ms) : r.foldl stepL (acc, d) = (acc ++ (foldB r d).1.reverse, (foldB r d).2) := by
  induction r generalizing d acc with
  | nil => simp [foldB]
  | cons m r ih =>
    rw [List.foldl_cons, foldB, stepL]
    cases h : liveB d (writesS m) with
    | false => simp only [Bool.false_eq_true, if_false]; exact ih d acc
    | true => simp only [if_true]; rw [ih]; simp
/-- The state when some have come. -/
def stL (d : List Sp) (pre : List (Int × Mo)) : List Ms × List Sp := (pre.map fun x => x.2.1).foldl stepL ([], normS d)
theorem stL_snoc (d : List Sp) (pre : List (Int × Mo)) (x : Int × Mo) : stL d (pre ++ [x]) = stepL (stL d pre) x.2.1 := by unfold stL; rw [List.map_append, List.foldl_append]; rfl
theorem stL_nrm (d : List Sp) (pre : List (Int × Mo)) : Nrm (stL d pre).2 := by
  have h : ∀ (r : List Ms) (acc : List Ms) (e : List Sp), Nrm e → Nrm (r.foldl stepL (acc, e)).2 := by
    intro r
    induction r with
    | nil => exact fun _ _ h => h
    | cons m r ih =>
      intro acc e he
      rw [List.foldl_cons, stepL]
      split
      · exact ih _ _ (minus_nrm _ _)
      · exact ih _ _ he
  exact h _ _ _ (norm_nrm d)
theorem nextD_len (d : List Sp) (m : Ms) : (nextD d m).length ≤ d.length + 4 := by
  have h1 := minus_length (d ++ killsS m) (readsS m)
  have h2 := kills_len m
  unfold nextD
  rw [List.length_append] at h1
  omega
theorem stL_len (d : List Sp) (pre : List (Int × Mo)) : (stL d pre).1.length ≤ pre.length ∧ (stL d pre).2.length ≤ d.length + 4 * pre.length := by
  have h : ∀ (r : List Ms) (acc : List Ms) (e : List Sp), (r.foldl stepL (acc, e)).1.length ≤ acc.length + r.length ∧ (r.foldl stepL (acc, e)).2.length ≤ e.length + 4 * r.length := by
    intro r
    induction r with
    | nil => exact fun _ _ => ⟨Nat.le_refl _, Nat.le_refl _⟩
    | cons m r ih =>
      intro acc e
      rw [List.foldl_cons, stepL]
      split
      · have h1 := ih (acc ++ [m]) (nextD e m)
        have h2 := nextD_len e m
        simp only [List.length_append, List.length_cons, List.length_nil] at *
        omega
      · have h1 := ih acc e
        simp only [List.length_cons] at *
        omega
  have h1 := h (pre.map fun x => x.2.1) [] (normS d)
  have h2 := norm_length d
  unfold stL
  simp only [List.length_map, List.length_nil] at h1
  omega
theorem stL_all (d : List Sp) (l : List Mo) : stL d (backM l l.length) = ((liveS (l.map (·.1)) d).1.reverse, (liveS (l.map (·.1)) d).2) := by
  unfold stL liveS
  have e : (backM l l.length).map (fun x => x.2.1) = (l.map (·.1)).reverse := by
    have h := backM_take l l.length (Nat.le_refl _)
    rw [List.take_of_length_le (by simp)] at h
    rw [← List.map_reverse, ← h, List.map_map]
    rfl
  rw [e, foldB_left]
  rfl

/-- What Live's loop keeps: the two boxes, the two rows, and the iterator's own box. -/
structure LvI (n₀ base Bs : Nat) (w0 : World) (d : List Sp) (B1 B2 : Nat) (sv : Value) (pre : List (Int × Mo)) (W : World) : Prop where
  ex : ∃ vk vs, Boxed W B1 102 vk ∧ Boxed W B2 45 vs ∧ W.ownsRow base 23 2 vk (stL d pre).2.length ((stL d pre).2.flatMap encS) ∧ OwnM W base vs (stL d pre).1
  bl : Below n₀ w0 W
  bs : Boxed W Bs 45 sv
theorem boxed_inj {W : World} {B : Nat} {t : TypeId} {u v : Value} (h : Boxed W B t u) (k : Boxed W B t v) : u = v := by
  have h1 := h.cell
  rw [k.cell] at h1
  exact (Option.some.inj h1).symm
theorem rows_apart {W : World} {base k n size size' : Nat} {e f : TypeId} (hef : e ≠ f) {u v : Value} {xs ys : List Value} (h : W.ownsRow base e size u k xs) (g : W.ownsRow base f size' v n ys) : ∀ j, u.ownBlock = some j → v.ownBlock ≠ some j := by
  intro j hj hk
  rcases h.2 with ⟨rfl, _⟩ | ⟨b1, cap, cur, rfl, _, hb1, _⟩
  · cases hj
  rcases g.2 with ⟨rfl, _⟩ | ⟨b2, cap2, cur2, rfl, _, hb2, _⟩
  · cases hk
  have e1 : b1 = j := Option.some.inj hj
  have e2 : b2 = j := Option.some.inj hk
  subst e1 e2
  rw [hb1] at hb2
  simp at hb2
  exact hef hb2.2
theorem own_apart {W : World} {base k n size size' : Nat} {e f : TypeId} (hef : e ≠ f) {u v : Value} {xs ys : List Value} (h : W.ownsRow base e size u k xs) (g : W.ownsRow base f size' v n ys) : u.ownBlock = none ∨ u.ownBlock ≠ v.ownBlock := by
  cases hu : u.ownBlock with
  | none => exact .inl rfl
  | some j => exact .inr fun e' => rows_apart hef h g j hu e'.symm
theorem blk_apart {W : World} {base n size b : Nat} {e f : TypeId} (hef : e ≠ f) {v : Value} {cs : Array Value} {ys : List Value} (h : Blk W b e cs) (g : W.ownsRow base f size v n ys) : v.ownBlock ≠ some b := by
  intro hk
  rcases g.2 with ⟨rfl, _⟩ | ⟨b2, cap2, cur2, rfl, _, hb2, _⟩
  · cases hk
  have e2 : b2 = b := Option.some.inj hk
  subst e2
  unfold Blk at h
  rw [hb2] at h
  simp at h
  exact hef h.2.symm
theorem own_notcells {W : World} {base : Nat} {e : TypeId} {size n : Nat} {v : Value} {xs : List Value} (h : W.ownsRow base e size v n xs) {r : Nat} {o : Obj} (ho : W.heap[r]? = some o) (hc : o.isCells = false) : v.ownBlock = none ∨ v.ownBlock ≠ some r := by
  rcases h.2 with ⟨rfl, _⟩ | ⟨g, cap, cur, rfl, _, hgb, _⟩
  · exact .inl rfl
  · refine .inr fun e' => ?_
    have e2 : g = r := Option.some.inj e'
    subst e2
    rw [hgb] at ho; cases ho; cases hc
theorem LvI.own (n₀ base Bs : Nat) (w0 : World) (d : List Sp) (B1 B2 : Nat) (sv : Value) (B : Nat) (h0 : n₀ ≤ w0.heap.size) (hB : n₀ ≤ B) : OwnFrom B (LvI n₀ base Bs w0 d B1 B2 sv) := by
  intro pre W W' row h hg hr
  have hbl := (ownFrom_below (β := List (Int × Mo)) (n₀ := n₀) (B := B) (w₀ := w0) h0 hB) pre W W' row h.bl hg hr
  obtain ⟨vk, vs, b1, b2, o1, o2⟩ := h.ex
  have hne : ∀ {B' : Nat} {t : TypeId} {v : Value}, Boxed W B' t v → some B' ≠ row := fun hb e => by
    obtain ⟨-, o, ho, hc⟩ := hr _ e.symm
    rw [show W.heap[_]? = _ from hb] at ho; cases ho; cases hc
  have hno : ∀ {e : TypeId} {size n : Nat} {v : Value} {xs : List Value}, W.ownsRow base e size v n xs → v.ownBlock = none ∨ v.ownBlock ≠ row := fun ho => by
    cases row with
    | none =>
      rename_i v _
      cases hv : v.ownBlock with
      | none => exact .inl rfl
      | some j => exact .inr (by simp)
    | some r =>
      obtain ⟨-, o, h1, h2⟩ := hr r rfl
      exact own_notcells ho h1 h2
  exact ⟨⟨vk, vs, b1.kept hg (hne b1), b2.kept hg (hne b2), o1.kept hg (hno o1), o2.kept hg (hno o2)⟩, hbl, h.bs.kept hg (hne h.bs)⟩
theorem grown_drew {w w' : World} (h : Grown w.drew w') : Grown w w' := Grown.trans ⟨1, #[], rfl⟩ h
theorem grown_cell {w w' : World} (h : Grown w w') {b i : Nat} {v : Value} (hc : w.cell? ⟨b, i, none⟩ = some v) : w'.cell? ⟨b, i, none⟩ = some v := by
  have hb : b < w.heap.size := by
    cases e : w.heap[b]? with
    | none => unfold World.cell? at hc; simp only [e] at hc; cases hc
    | some o => exact (Array.getElem?_eq_some_iff.1 e).1
  rw [(h.below (Nat.le_refl _)).cell hb]; exact hc
theorem KpB.put {n₀ Bs : Nat} {w : World} (hn : n₀ ≤ w.heap.size) (hB : Bs < w.heap.size) (W : World) (l : Nat) (o o' : Obj) (hl : w.heap.size ≤ l) (h : W.heap[l]? = some o) (h1 : o.isCells = false) (h2 : o.isWalk = false) : KpB n₀ Bs W (W.putObj l o') :=
  ⟨belowK_b hn W l o o' hl h h1 h2, (grownBy_putObj' W l o').block Bs (by have := (Array.getElem?_eq_some_iff.1 h).1; omega) (fun e => by have : Bs = l := Option.some.inj e; omega)⟩

theorem blk_kept {w w' : World} {b : Nat} {T : TypeId} {cs : Array Value} {row : Option Nat} (h : Blk w b T cs) (hg : w.grownBy w' row) (hne : some b ≠ row) : Blk w' b T cs := by
  unfold Blk at *
  rw [hg.block b (Array.getElem?_eq_some_iff.1 h).1 hne]
  exact h
theorem blk_notcells {w : World} {b : Nat} {T : TypeId} {cs : Array Value} (h : Blk w b T cs) {o : Obj} (ho : w.heap[b]? = some o) (hc : o.isCells = false) : False := by
  unfold Blk at h
  rw [h] at ho; cases ho; cases hc

theorem boxed_below {W W' : World} {B : Nat} {t : TypeId} {v : Value} (h : Boxed W B t v) (hb : Below W.heap.size W W') : Boxed W' B t v := (hb.block B h.lt).trans h
theorem keeps_row {W W' : World} {base size n : Nat} {e : TypeId} {v : Value} {xs : List Value} (h : W.ownsRow base e size v n xs) (hg : W.grownBy W' v.ownBlock) : KeepsOthers W W' :=
  KeepsOthers.of_grownBy hg fun j o ej hj => by
    rcases h.2 with ⟨rfl, _⟩ | ⟨g, cap, cur, rfl, _, hgb, _⟩
    · cases ej
    · have e2 : g = j := Option.some.inj ej
      subst e2
      rw [hgb] at hj; cases hj; rfl
theorem keeps_below {W W' : World} (h : Below W.heap.size W W') : KeepsOthers W W' := KeepsOthers.of_grownBy (grownBy_below h none) (fun _ _ h => by cases h)
theorem below_row {B : Nat} {W W' : World} {base size n : Nat} {e : TypeId} {v : Value} {xs : List Value} (h : W.ownsRow base e size v n xs) (hg : W.grownBy W' v.ownBlock) (hB : B ≤ base) (hw : base ≤ W.heap.size) : Below B W W' :=
  (Below.refl B W).grown hg (by omega) (fun k ek => Nat.le_trans hB (h.lt k ek).1)
theorem own_formM {w : World} {base n : Nat} {e : TypeId} {size : Nat} {v : Value} {xs : List Value} (h : w.ownsRow base e size v n xs) : ∃ p cap, v = .slice p n cap ∧ n ≤ cap ∧ cap ≤ maxLen := by
  have hl := h.1
  rcases h.2 with ⟨rfl, h0⟩ | ⟨g, cap, cur, rfl, hb, hg, hn, hm, _⟩
  · exact ⟨none, 0, by rw [h0], by omega, by unfold maxLen; omega⟩
  · exact ⟨_, cap, rfl, hn, hm⟩
theorem cells_newM (wx : World) (m : Ms) (T : TypeId) : ∀ j u, (encML m)[j]? = some u → (wx.alloc (.cells (encM m) T)).cell? ((⟨wx.heap.size, 0, none⟩ : Addr).add j) = some u := by
  intro j u hj
  have h := (Blk.new wx T (encM m)).c0 j u (by simpa [encML] using hj)
  have e : (⟨wx.heap.size, 0, none⟩ : Addr).add j = ⟨wx.heap.size, j, none⟩ := by unfold Addr.add; split <;> simp_all
  rw [e]; exact h
/-- One message more, inside a fence. -/
theorem appendIn_msg {F : Fence} {n : Nat} {w : World} {ops : Array Oper} {rest : List Oper} {o : Oper} {a : Act} {Q : Exit → Act → World → Prop} (hgd : o.guard = none) (s x : Operand)
    (ho : o.op = .call { callee := .builtin .append, args := #[s, x], argTypes := #[45, 45] }) (base : Nat) (v : Value) (l : List Ms) (hs : a.eval s = v) (hown : OwnM w base v l)
    (ad : Addr) (c : Nat) (m : Ms) (hx : a.eval x = .slice (some ad) 1 c) (hc : ∀ j u, (encML m)[j]? = some u → w.cell? (ad.add j) = some u) (hl : l.length ≤ 1000000000) (hbase : base ≤ w.heap.size)
    (h : ∀ v' w', OwnM w' base v' (l ++ [m]) → w.grownBy w' v.ownBlock → wpListIn F n Tryz.prog ops Q rest (a.put o.dst v') w') : wpListIn F n Tryz.prog ops Q (o :: rest) a w := by
  obtain ⟨i0, hi, hz0, hz1, hz2⟩ := info_parts infoM
  refine wpListIn_append_own _ hgd s x 45 ho base 25 i0 (.agg #[.int .i64 0, .string ⟨#[]⟩, .string ⟨#[]⟩, .string ⟨#[]⟩, .string ⟨#[]⟩, .string ⟨#[]⟩, .string ⟨#[]⟩, .int .i64 0]) 8 112 Tryz.underlying45 hi hz0 hz1 hz2 rfl (by decide) v l.length _ hs hown ad 1 c (encML m) hx rfl hc (by simpa using flatM_one [m]) (by unfold maxLen; omega) (by omega) hbase ?_
  intro v' w' h2 h3 _
  refine h v' w' ?_ h3
  unfold OwnM
  rw [List.length_append, List.flatMap_append]; simpa using h2

set_option maxRecDepth 100000 in
set_option maxHeartbeats 4000000 in
theorem live_w (v vd : Value) (l : List Mo) (d : List Sp) (w : World) (hm : IsMsgs w v (l.map (·.1))) (hd : IsSpans w vd d) (hl : l.length ≤ 50) (hdl : d.length ≤ 200) :
    Calls Tryz.prog 23 #[v, vd] w fun e w' => ∃ v1 v2, e = .returned (.tuple #[v1, v2]) ∧ IsMsgs w' v1 (liveS (l.map (·.1)) d).1 ∧ IsSpans w' v2 (liveS (l.map (·.1)) d).2 ∧ Below w.heap.size w w' := by
  refine (callsIn_wide (n := 3)).1 ?_
  have hnl : (normS d).length ≤ 200 := Nat.le_trans (norm_length d) hdl
  have HN := Lib.hid (norm_w vd d w hd (by omega))
  have HCL := Lib.hid (fun vn w1 (h : w1.ownsRow w.heap.size 23 2 vn (normS d).length ((normS d).flatMap encS)) => cloneS_w vn (normS d) w1 (IsSpans.owned h) (by omega))
  obtain ⟨av, capv, rfl, hlc, hcm, -⟩ := id hm
  have hml : (l.map (·.1)).length = l.length := List.length_map ..
  rw [hml] at hlc hm ⊢
  have HM := Lib.hid hm
  clear hm hd hml
  unfold maxLen at hcm
  refine callsIn_of_wp_marks Tryz.func23 rfl trivial ?_ rfl
  simp only [Tryz.ntmps23, List.size_toArray, List.length_cons, List.length_nil, Nat.reduceAdd, Nat.reduceSub, Array.replicate_succ, Array.replicate_zero, List.push_toArray, List.append_toArray, List.nil_append, List.cons_append]
  gi_wp2_with (first
    | (refine ⟨trivial, ?_⟩; gi_at_call 64; refine (callsIn_wide.2 HN.out).mono ?_; rintro e w1 ⟨vn, rfl, hn1, hb1⟩)
    | (refine ⟨trivial, ?_⟩; gi_at_call 63; refine (callsIn_wide.2 (HCL.out _ _ hn1)).mono ?_; rintro e w2 ⟨vk, rfl, hk2, hb2⟩; obtain ⟨pk, capk, rfl, hkc, hkm, -⟩ := own_form hk2)
    | (refine ⟨trivial, ?_⟩; gi_at_call 65; refine (back_in Fence.wide _ trivial rfl _ _ _ _).mono ?_; rintro e w3 ⟨rfl, rfl⟩)
    | (gi_at_call 64; refine (callsIn_wide.2 HN.out).mono ?_; rintro e w1 ⟨vn, rfl, hn1, hb1⟩)
    | (gi_at_call 63; refine (callsIn_wide.2 (HCL.out _ _ hn1)).mono ?_; rintro e w2 ⟨vk, rfl, hk2, hb2⟩; obtain ⟨pk, capk, rfl, hkc, hkm, -⟩ := own_form hk2)
    | (gi_at_call 65; refine (back_in Fence.wide _ trivial rfl _ _ _ _).mono ?_; rintro e w3 ⟨rfl, rfl⟩))
  have hb12 : Below w.heap.size w w2 := hb1.trans (hb2.mono hb1.size)
  have hbW : Below w.heap.size w (((w2.alloc (.cells #[.slice pk (normS d).length capk] 102)).alloc (.cells #[.slice none 0 0] 45)).alloc (.cells #[.slice av l.length capv] 45)) := ((hb12.alloc hb12.size _).alloc (by have := hb12.size; simp; omega) _).alloc (by have := hb12.size; simp; omega) _
  obtain ⟨W0, hW0⟩ : ∃ W0, W0 = (((w2.alloc (.cells #[.slice pk (normS d).length capk] 102)).alloc (.cells #[.slice none 0 0] 45)).alloc (.cells #[.slice av l.length capv] 45)) := ⟨_, rfl⟩
  have hsz0 : W0.heap.size = w2.heap.size + 3 := by rw [hW0]; simp
  have bx1 : Boxed W0 w2.heap.size 102 (.slice pk (normS d).length capk) := by rw [hW0]; exact ((Boxed.new w2 _ _).alloc _).alloc _
  have bx2 : Boxed W0 (w2.heap.size + 1) 45 (.slice none 0 0) := by rw [hW0]; have := (Boxed.new (w2.alloc (.cells #[.slice pk (normS d).length capk] 102)) 45 (.slice none 0 0)).alloc (.cells #[.slice av l.length capv] 45); simpa using this
  have bx3 : Boxed W0 (w2.heap.size + 2) 45 (.slice av l.length capv) := by rw [hW0]; have := Boxed.new ((w2.alloc (.cells #[.slice pk (normS d).length capk] 102)).alloc (.cells #[.slice none 0 0] 45)) 45 (.slice av l.length capv); simpa using this
  rw [← hW0] at hbW ⊢
  have hbs := hbW.size
  have hk0 : W0.ownsRow w1.heap.size 23 2 (.slice pk (normS d).length capk) (normS d).length ((normS d).flatMap encS) := owns_below hk2 (by rw [hW0]; exact ((below_box _).trans ((Below.refl _ _).alloc (by simp) _)).trans ((Below.refl _ _).alloc (by simp; omega) _))
  have hklt := hk2.lt
  refine wpIn_rangeFunc_ownH (α := Int × Mo) rfl (by omega) (gf := 84) (lb := #[.pointer (some ⟨w2.heap.size + 1 + 1, 0, none⟩)]) rfl trivial (enters_of Tryz.func84 (by kernel_rfl) rfl)
    (back_stops Fence.wide (3 - 1) trivial rfl (by omega) (w2.heap.size + 1 + 1) w.heap.size (.slice av l.length capv) l (by omega) w W0 (by omega) hbs bx3.cell HM.out (Nat.le_refl _) hbW)
    (fun h k => h.trans k) (KpB.put hbs (by omega)) (Below.refl _ _) (fun _ => rfl)
    (LvI w.heap.size w1.heap.size (w2.heap.size + 2) w d w2.heap.size (w2.heap.size + 1) (.slice av l.length capv)) (fun _ _ _ => False) (LvI.own _ _ _ _ _ _ _ _ _ (Nat.le_refl _) hbs) (fun _ _ _ _ _ h _ _ => h)
    ⟨⟨_, _, bx1, bx2, hk0, World.ownsRow_nil _ _ _ _⟩, hbW, bx3⟩
    (fun x a' W => ∃ Bx vs, w2.heap.size + 2 < Bx ∧ Blk W Bx 25 (encM x.2.1) ∧ Boxed W (w2.heap.size + 1) 45 vs ∧ vs.ownBlock ≠ some Bx ∧ a' = { tmps := #[.slice av l.length capv, vd, undef, undef, .slice none 0 0, .slice none 0 0, .pointer (some ⟨w2.heap.size, 0, none⟩), .pointer (some ⟨w2.heap.size + 1, 0, none⟩), undef, .pointer (some ⟨Bx, 0, none⟩), vd, vn, .slice pk (normS d).length capk, .slice av l.length capv, .func (.func 84) #[] #[.pointer (some ⟨w2.heap.size + 1 + 1, 0, none⟩)], .int .i64 x.1, msgV x.2.1, undef, undef, undef, undef, undef, undef, undef, undef, undef, undef, undef, undef, undef, undef, undef, undef], defers := [] }) ?_ ?assign ?body ?done ?stop
  · rintro x a' _ W W' row ⟨Bx, vs, h1, h2, h3, h4, rfl⟩ hg hr
    refine ⟨Bx, vs, h1, ?_, ?_, h4, rfl⟩
    · exact blk_kept h2 hg fun e => by
        obtain ⟨-, o, ho, hc⟩ := hr _ e.symm
        exact blk_notcells h2 ho hc
    · exact h3.kept hg fun e => by
        obtain ⟨-, o, ho, hc⟩ := hr _ e.symm
        rw [show W.heap[_]? = _ from h3] at ho; cases ho; cases hc
  case assign =>
    rintro lp pre x W K hi hK
    obtain ⟨vk, vs, b1, b2, o1, o2⟩ := hi.ex
    have hbl := hi.bl.size
    have hsz := hi.bs.lt
    gi_wp2
    refine hK _ _ ((KeepsOthers.alloc _ _).from _) ⟨(Below.refl _ W).alloc hbl _, (World.grownBy_alloc W _ none).block _ hsz (by simp)⟩ ((LvI.own _ _ _ _ _ _ _ _ _ (Nat.le_refl _) hbs).alloc _ hi) ⟨W.heap.size, vs, hsz, Blk.new _ _ _, b2.alloc _, fun e => ?_, rfl⟩
    have := (o2.lt _ e).2
    omega
  case body =>
    rintro lp pre ⟨xi, m, hszm, hwm⟩ a' W hlp ⟨r, hr⟩ hi ⟨Bx, vs0, hBx, bX, b20, hnx, rfl⟩ hlt
    obtain ⟨vk, vs, b1, b2, o1, o2⟩ := hi.ex
    obtain rfl := boxed_inj b20 b2
    have hbs3 := hi.bs
    have hbl := hi.bl
    change Blk W Bx 25 (encM m) at bX
    have HST := stL_snoc d pre (xi, ⟨m, hszm, hwm⟩)
    obtain ⟨p2, hp2⟩ : ∃ p2, p2 = pre ++ [(xi, (⟨m, hszm, hwm⟩ : Mo))] := ⟨_, rfl⟩
    rw [← hp2] at HST ⊢
    clear hp2
    unfold stepL at HST
    have hnd := stL_nrm d pre
    have hln := stL_len d pre
    obtain ⟨⟨Mx, D⟩, hMD⟩ : ∃ q : List Ms × List Sp, q = stL d pre := ⟨_, rfl⟩
    rw [← hMD] at HST hnd hln o1 o2
    dsimp only at HST hnd hln o1 o2
    replace HST : Hid (stL d p2 = if liveB D (writesS m) = true then (Mx ++ [m], nextD D m) else (Mx, D)) := Lib.hid HST
    have HMD := Lib.hid hMD
    clear hMD
    have hMx : Mx.length ≤ 50 := by omega
    have hDl : D.length ≤ 400 := by omega
    have hwl : (writesS m).length ≤ 2 := by
      unfold writesS; repeat' split
      all_goals simp
    obtain ⟨pk2, capk2, rfl, hkc2, hkm2, -⟩ := own_form o1
    obtain ⟨ps2, caps2, hvs2, hsc2, hsm2, -⟩ := o2.msgs
    subst hvs2
    unfold maxLen at hkm2 hsm2
    have hmx := mixedA
    have HW := Lib.hid (fun wx => Fresh.writes_w m wx hszm)
    have HLL := Lib.hid (lack_live hnd (writesS m) hwm)
    have HCW := Lib.hid (fun wv wx (h : IsSpans wx wv (writesS m)) (hx : Below W.heap.size W wx) => contains_w wv _ (writesS m) D wx h ((IsSpans.owned o1).below hx) hnd (by omega) (by omega))
    rw [HLL.out] at HCW
    have HBF := Lib.hid (fun (v : Value) wx (h : wx.ownsRow w1.heap.size 23 2 v D.length (D.flatMap encS)) (hx : w1.heap.size ≤ wx.heap.size) => before_w w1.heap.size v D m wx h hnd hx hszm hDl)
    have c1 := b1.cell
    have c2 := b2.cell
    have m0 : W.cell? ⟨Bx, 0, none⟩ = some (.int .i64 m.kind) := bX.c0 0 _ rfl
    have m1 : W.cell? ⟨Bx, 1, none⟩ = some (.string (Str m.key)) := bX.c0 1 _ rfl
    have m2 : W.cell? ⟨Bx, 2, none⟩ = some (.string (Str m.val)) := bX.c0 2 _ rfl
    have m3 : W.cell? ⟨Bx, 3, none⟩ = some (.string (Str m.lo)) := bX.c0 3 _ rfl
    have m4 : W.cell? ⟨Bx, 4, none⟩ = some (.string (Str m.hi)) := bX.c0 4 _ rfl
    have m5 : W.cell? ⟨Bx, 5, none⟩ = some (.string (Str m.src)) := bX.c0 5 _ rfl
    have m6 : W.cell? ⟨Bx, 6, none⟩ = some (.string (Str m.dst)) := bX.c0 6 _ rfl
    have m7 : W.cell? ⟨Bx, 7, none⟩ = some (.int .i64 m.n) := bX.c0 7 _ rfl
    have hI := Lib.hid hi
    clear hi HLL
    dsimp only
    clear hwm
    generalize writesS m = Wm at *
    gi_upto_region 5 with fail
    gi_cut [21] from 17 (fun s21 wc => s21 = .bool (liveB D Wm) ∧ Hid (Grown W wc))
    case first =>
      gi_region_with (first
        | (refine ⟨trivial, ?_⟩; gi_at_call 45; refine (CallsIn.inRound lp (callsIn_wide.2 (HW.out _))).mono ?_; rintro e w5 ⟨wv, rfl, ⟨hws, -⟩, hwg⟩; have c15 := grown_cell hwg c1; have HWG := Lib.hid (grown_drew hwg); obtain ⟨pw, cw, hwe, hw1, hw2, -⟩ := id hws; subst hwe)
        | (refine ⟨trivial, ?_⟩; gi_at_call 66; go_must (refine (CallsIn.inRound lp (callsIn_wide.2 (HCW.out _ _ hws (HWG.out.below (Nat.le_refl _))))).mono ?_; rintro e w6 ⟨rfl, hg6⟩; have HG6 := Lib.hid (HWG.out.trans hg6))))
      all_goals (gi_wp2_with fail; gi_meet; exact ⟨rfl, HG6⟩)
    case rest =>
      obtain ⟨rfl, HG⟩ := hcut
      have hbc := HG.out.below (Nat.le_refl W.heap.size)
      have b1c := boxed_below b1 hbc
      have b2c := boxed_below b2 hbc
      have b3c := boxed_below hbs3 hbc
      have o1c := owns_below o1 hbc
      have o2c : OwnM wc w1.heap.size (.slice ps2 Mx.length caps2) Mx := o2.below hbc
      have bXc := bX.below hbc bX.lt
      have hbase : w1.heap.size ≤ wc.heap.size := by have h1 := hbc.size; have h2 := hbl.size; have h3 := hbs3.lt; have h4 := hb2.size; omega
      have hn1w : w.heap.size ≤ w1.heap.size := hb1.size
      clear c1 c2 m0 m1 m2 m3 m4 m5 m6 m7 HW HCW
      generalize hlv : liveB D Wm = lv at *
      cases lv
      · rw [if_neg (by simp)] at HST
        have HST1 := Lib.hid (congrArg Prod.fst HST.out)
        have HST2 := Lib.hid (congrArg Prod.snd HST.out)
        gi_wp2
        refine ⟨(keeps_below hbc).from _, ⟨hbc.mono hbl.size, hbc.block _ hbs3.lt⟩, ⟨⟨_, _, b1c, b2c, ?_, ?_⟩, hbl.trans (hbc.mono hbl.size), b3c⟩⟩
        · rw [HST2.out]; exact o1c
        · rw [HST1.out]; exact o2c
      · rw [if_pos rfl] at HST
        have HST1 := Lib.hid (congrArg Prod.fst HST.out)
        have HST2 := Lib.hid (congrArg Prod.snd HST.out)
        clear HST hI hbc
        have c1 := b1c.cell
        have c2 := b2c.cell
        have m0 : wc.cell? ⟨Bx, 0, none⟩ = some (.int .i64 m.kind) := bXc.c0 0 _ rfl
        have m1 : wc.cell? ⟨Bx, 1, none⟩ = some (.string (Str m.key)) := bXc.c0 1 _ rfl
        have m2 : wc.cell? ⟨Bx, 2, none⟩ = some (.string (Str m.val)) := bXc.c0 2 _ rfl
        have m3 : wc.cell? ⟨Bx, 3, none⟩ = some (.string (Str m.lo)) := bXc.c0 3 _ rfl
        have m4 : wc.cell? ⟨Bx, 4, none⟩ = some (.string (Str m.hi)) := bXc.c0 4 _ rfl
        have m5 : wc.cell? ⟨Bx, 5, none⟩ = some (.string (Str m.src)) := bXc.c0 5 _ rfl
        have m6 : wc.cell? ⟨Bx, 6, none⟩ = some (.string (Str m.dst)) := bXc.c0 6 _ rfl
        have m7 : wc.cell? ⟨Bx, 7, none⟩ = some (.int .i64 m.n) := bXc.c0 7 _ rfl
        gi_upto_region 7 with (gi_at_builtin; go_must (refine appendIn_msg rfl _ _ rfl w1.heap.size (.slice ps2 Mx.length caps2) Mx rfl ?c0 ⟨wc.heap.size, 0, none⟩ 1 m rfl ?c1 ?c2 ?c3 ?c4; (case c0 => exact o2c.below (below_box _)); (case c1 => exact cells_newM wc m _); (case c2 => omega); (case c3 => simp; omega); intro v9 w9 ho9 hg9; obtain ⟨p9, cap9, rfl, h91, h92⟩ := own_formM ho9; have b29 := (b2c.alloc (.cells (encM m) 25)).kept hg9 ((b2c.alloc (.cells (encM m) 25)).not_row (by decide) (o2c.below (below_box (.cells (encM m) 25)))); have c29 := b29.cell; have f29 := b29.frozen))
        have hML : (Mx ++ [m]).length = Mx.length + 1 := by simp
        obtain ⟨-, b2d, o2d, k7, l7⟩ := b2c.appended (by decide) o2c hbase (by have := hb2.size; omega) ho9 hg9
        have b1d := ((b1c.alloc (.cells (encM m) 25)).kept hg9 ((b1c.alloc (.cells (encM m) 25)).not_row (by decide) (o2c.below (below_box (.cells (encM m) 25))))).other (B' := w2.heap.size + 1) (by omega) (.slice p9 (Mx.length + 1) cap9)
        have b3d := ((b3c.alloc (.cells (encM m) 25)).kept hg9 ((b3c.alloc (.cells (encM m) 25)).not_row (by decide) (o2c.below (below_box (.cells (encM m) 25))))).other (B' := w2.heap.size + 1) (by omega) (.slice p9 (Mx.length + 1) cap9)
        have o1d := ((owns_below o1c (below_box (.cells (encM m) 25))).kept hg9 (own_apart (by decide) (owns_below o1c (below_box (.cells (encM m) 25))) (o2c.below (below_box (.cells (encM m) 25))))).kept (grownBy_setCell' w9 (w2.heap.size + 1) (.slice p9 (Mx.length + 1) cap9)) (.inr fun e => (b29.not_row (by decide) ((owns_below o1c (below_box (.cells (encM m) 25))).kept hg9 (own_apart (by decide) (owns_below o1c (below_box (.cells (encM m) 25))) (o2c.below (below_box (.cells (encM m) 25)))))) e.symm)
        have bXd := blk_kept (blk_kept (bXc.below (below_box (.cells (encM m) 25)) bXc.lt) hg9 (fun e => hnx e.symm)) (grownBy_setCell' w9 (w2.heap.size + 1) (.slice p9 (Mx.length + 1) cap9)) (fun e => by have : Bx = w2.heap.size + 1 := Option.some.inj e; omega)
        obtain ⟨W7, hW7⟩ : ∃ W7, W7 = w9.setCell ⟨w2.heap.size + 1, 0, none⟩ (.slice p9 (Mx.length + 1) cap9) := ⟨_, rfl⟩
        rw [hML] at b2d o2d k7 l7
        rw [← hW7] at b2d o2d k7 l7 b1d b3d o1d bXd ⊢
        clear c1 c2 m0 m1 m2 m3 m4 m5 m6 m7 c29 f29 hW7 b29 ho9 hg9
        have c1 := b1d.cell
        have f1 := b1d.frozen
        have m0 : W7.cell? ⟨Bx, 0, none⟩ = some (.int .i64 m.kind) := bXd.c0 0 _ rfl
        have m1 : W7.cell? ⟨Bx, 1, none⟩ = some (.string (Str m.key)) := bXd.c0 1 _ rfl
        have m2 : W7.cell? ⟨Bx, 2, none⟩ = some (.string (Str m.val)) := bXd.c0 2 _ rfl
        have m3 : W7.cell? ⟨Bx, 3, none⟩ = some (.string (Str m.lo)) := bXd.c0 3 _ rfl
        have m4 : W7.cell? ⟨Bx, 4, none⟩ = some (.string (Str m.hi)) := bXd.c0 4 _ rfl
        have m5 : W7.cell? ⟨Bx, 5, none⟩ = some (.string (Str m.src)) := bXd.c0 5 _ rfl
        have m6 : W7.cell? ⟨Bx, 6, none⟩ = some (.string (Str m.dst)) := bXd.c0 6 _ rfl
        have m7 : W7.cell? ⟨Bx, 7, none⟩ = some (.int .i64 m.n) := bXd.c0 7 _ rfl
        have HB7 := Lib.hid (HBF.out _ W7 o1d (Nat.le_trans hbase l7.size))
        clear HBF
        gi_wp2_with (refine ⟨trivial, ?_⟩; gi_at_call 68; go_must (refine (CallsIn.inRound lp (callsIn_wide.2 HB7.out)).mono ?_; rintro e w11 ⟨v11, rfl, o11, t11⟩; obtain ⟨p11, cap11, rfl, h111, h112, -⟩ := own_form o11; have b111 := b1d.kept t11.1 (b1d.not_row (by decide) o1d); have c111 := b111.cell; have f111 := b111.frozen))
        have b28 := (b2d.kept t11.1 (b2d.not_row (by decide) o1d)).other (B' := w2.heap.size) (by omega) (.slice p11 (nextD D m).length cap11)
        have b38 := (b3d.kept t11.1 (b3d.not_row (by decide) o1d)).other (B' := w2.heap.size) (by omega) (.slice p11 (nextD D m).length cap11)
        have o18 := o11.kept (grownBy_setCell' w11 w2.heap.size (.slice p11 (nextD D m).length cap11)) (.inr fun e => (b111.not_row (by decide) o11) e.symm)
        have o2e := o2d.kept t11.1 (own_apart (by decide) o2d o1d)
        have o28 := o2e.kept (grownBy_setCell' w11 w2.heap.size (.slice p11 (nextD D m).length cap11)) (.inr fun e => (b111.not_row (by decide) o2e) e.symm)
        have hsz7 := l7.size
        have hB8 : Below w.heap.size W (w11.setCell ⟨w2.heap.size, 0, none⟩ (.slice p11 (nextD D m).length cap11)) := (((HG.out.below (Nat.le_refl W.heap.size)).mono hbl.size).trans ((l7.mono hn1w).trans (below_row o1d t11.1 hn1w (Nat.le_trans hbase hsz7)))).setCell (p := ⟨w2.heap.size, 0, none⟩) hb12.size _
        refine ⟨(((keeps_below (HG.out.below (Nat.le_refl W.heap.size))).trans k7).trans ((keeps_row o1d t11.1).trans (KeepsOthers.setCell _ _ _))).from _, ⟨hB8, (show _ = _ from b38).trans hbs3.symm⟩, ⟨⟨_, _, b111.set _, b28, ?_, ?_⟩, hbl.trans hB8, b38⟩⟩
        · rw [HST2.out]; exact o18
        · rw [HST1.out]
          unfold OwnM
          rw [hML]; exact o28
  case done =>
    rintro Dd ys W hDl rfl hi hDk
    obtain ⟨vk, vs, b1, b2, o1, o2⟩ := hi.ex
    have hbl := hi.bl
    have hal := stL_all d l
    have hsl := stL_len d (backM l l.length)
    rw [backM_length] at hsl
    rw [hal] at o1 o2 hsl
    dsimp only at o1 o2 hsl
    obtain ⟨L1, hL1⟩ : ∃ L1, L1 = (liveS (l.map (·.1)) d).1.reverse := ⟨_, rfl⟩
    rw [← hL1] at o2 hsl
    have HL1 : Hid (L1.reverse = (liveS (l.map (·.1)) d).1) := Lib.hid (by rw [hL1, List.reverse_reverse])
    obtain ⟨D0, hD0⟩ : ∃ D0, D0 = (liveS (l.map (·.1)) d).2 := ⟨_, rfl⟩
    rw [← hD0] at o1 hsl
    have HD0 := Lib.hid hD0
    clear hal HM hi hL1 hD0
    obtain ⟨ps, caps, hvs, hs1, hs2⟩ := own_formM o2
    subst hvs
    obtain ⟨pk9, capk9, rfl, hk1, hk2, -⟩ := own_form o1
    have HREV := Lib.hid (reverse_w w1.heap.size (.slice ps L1.length caps) L1 W o2 (by omega))
    have O1 := Lib.hid o1
    have O2 := Lib.hid o2
    have B1 := Lib.hid b1
    have B2 := Lib.hid b2
    have HBL := Lib.hid hbl
    have HDK := Lib.hid hDk
    have c2 := b2.cell
    clear o1 o2 b1 b2 hbl hDk
    generalize hn1 : L1.length = n1 at *
    gi_wp2_with (refine ⟨trivial, ?_⟩; gi_at_call 69; go_must (refine (callsIn_wide.2 HREV.out).mono ?_; rintro e w8 ⟨rfl, o8, g8⟩))
    have HW8 : Hid (∃ m1, W.grownBy w8 m1) := Lib.hid ⟨_, g8⟩
    have b18 := B1.out.kept g8 (B1.out.not_row (by decide) O2.out)
    have b28 := B2.out.kept g8 (B2.out.not_row (by decide) O2.out)
    have d8 : w8.heap[Dd]? = some (.deferred (some [])) := (g8.block Dd (Array.getElem?_eq_some_iff.1 HDK.out).1 (fun e => by
      rcases own_notcells O2.out HDK.out rfl with h | h
      · rw [h] at e; cases e
      · exact h e.symm)).trans HDK.out
    have D8 := Lib.hid d8
    have c18 := b18.cell
    have c28 := b28.cell
    have O8 := Lib.hid o8
    have O18 := Lib.hid (O1.out.kept g8 (own_apart (by decide) O1.out O2.out))
    have HB8 := Lib.hid (below_row O2.out g8 hb1.size (by have := B1.out.lt; have := hb2.size; omega))
    clear b18 b28 d8 o8 g8
    gi_region
    all_goals gi_wp2
    all_goals
      refine ⟨by simp, .inl ⟨_, _, rfl, run_takeDeferred (show w8.drew.heap[Dd]? = some (.deferred (some [])) from D8.out), ?_⟩⟩
      refine ⟨.tuple #[.slice ps n1 caps, .slice pk9 D0.length capk9], ?_, _, _, rfl, ?_, ?_, ?_⟩
      · simp [results, Tryz.results23, go_sem]
      · rw [← HL1.out]
        exact OwnM.msgs (ownsRow_putObj (owns_below O8.out (below_drewN w8 1)) _ (show w8.drew.heap[Dd]? = some (.deferred (some [])) from D8.out) rfl)
      · rw [← HD0.out]
        exact IsSpans.owned (ownsRow_putObj (owns_below O18.out (below_drewN w8 1)) _ (show w8.drew.heap[Dd]? = some (.deferred (some [])) from D8.out) rfl)
      · exact (HBL.out.trans (HB8.out.trans ((show Below w8.heap.size w8 w8.drew from below_drewN w8 1).mono (Nat.le_trans HBL.out.size HB8.out.size)))).trans (belowK_b (w := w) (Nat.le_refl _) w8.drew Dd _ _ (Nat.le_trans hbs hDl) (show w8.drew.heap[Dd]? = some (.deferred (some [])) from D8.out) rfl rfl)
  case stop =>
    rintro D c pre W _ _ h _
    exact h.elim

end Go.Proofs.YtpppkjcbheooeaaGreat
