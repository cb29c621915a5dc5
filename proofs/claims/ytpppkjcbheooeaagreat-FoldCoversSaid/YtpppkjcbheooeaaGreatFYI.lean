/-
  Walks: slices.Grow and slices.Concat at lists of messages; Reduce and Merge. Plain facts of the laws of package fold. No program. Plain facts: tables stay short while few messages act on them; the messages that are chosen.
-/
import Derived.Test.YtpppkjcbheooeaaGreatFWV
import Derived.Test.YtpppkjcbheooeaaGreatSh4
import Derived.Test.YtpppkjcbheooeaaGreatFR
import Derived.Test.YtpppkjcbheooeaaGreatGAB
namespace Go.Proofs.YtpppkjcbheooeaaGreat
open Go.RowKit Go.Sort Go.Shelf
set_option linter.unusedVariables false

/-- A list of messages handed back in memory of the call's own. -/
def OutM (B : Nat) (w : World) (l : List Ms) (e : Ending) (w' : World) : Prop := ∃ v', e = .returned v' ∧ OwnM w' B v' l ∧ Below B w w'
theorem append_msgs {w : World} {ops : Array Oper} {rest : List Oper} {o : Oper} {a : Act} {Q : Exit → Act → World → Prop} (hgd : o.guard = none) (s x : Operand)
    (ho : o.op = .call { callee := .builtin .append, args := #[s, x], argTypes := #[45, 45] }) (base : Nat) (v : Value) (l : List Ms) (hs : a.eval s = v) (hown : OwnM w base v l)
    (u : Value) (m : List Ms) (hx : a.eval x = u) (hp : IsMsgs w u m) (hl : l.length + m.length ≤ 1000000000) (hbase : base ≤ w.heap.size)
    (h : ∀ v' w', OwnM w' base v' (l ++ m) → Below base w w' → wpList Tryz.prog ops Q rest (a.put o.dst v') w') : wpList Tryz.prog ops Q (o :: rest) a w := by
  obtain ⟨i0, hi, hz0, hz1, hz2⟩ := info_parts infoM
  obtain ⟨p, cap, rfl, hlc, hcm, hpp⟩ := hp
  refine append_gen hgd s x 45 25 i0 (.agg #[.int .i64 0, .string ⟨#[]⟩, .string ⟨#[]⟩, .string ⟨#[]⟩, .string ⟨#[]⟩, .string ⟨#[]⟩, .string ⟨#[]⟩, .int .i64 0]) 8 112 Tryz.underlying45 hi hz0 hz1 hz2 rfl (by decide) (by decide) ho base v l.length _ hs hown p m.length cap (m.flatMap encML) hx (flatM_len m) ?_ (flatM_one m) hl hbase ?_
  · intro hm
    obtain ⟨b, off, rfl, hlt, hc⟩ := hpp (by rintro rfl; simp at hm)
    refine ⟨_, rfl, cells_at fun j u hj => ?_⟩
    have hj1 : j < m.length * 8 := by rw [← flatM_len]; exact (List.getElem?_eq_some_iff.1 hj).1
    have hi2 : j / 8 < m.length := by omega
    have g := flatM_get m (j / 8) (j % 8) hi2 (by omega)
    rw [show j / 8 * 8 + j % 8 = j by omega, hj] at g
    obtain ⟨c0, c1, c2, c3, c4, c5, c6, c7⟩ := hc (j / 8) hi2
    have e : ∀ k, j % 8 = k → off + j = off + j / 8 * 8 + k := fun k hk => by omega
    have hr : j % 8 = 0 ∨ j % 8 = 1 ∨ j % 8 = 2 ∨ j % 8 = 3 ∨ j % 8 = 4 ∨ j % 8 = 5 ∨ j % 8 = 6 ∨ j % 8 = 7 := by omega
    rcases hr with h | h | h | h | h | h | h | h
    all_goals
      rw [e _ h]
      rw [h] at g
      simp only [encML, List.getElem?_cons_zero, List.getElem?_cons_succ] at g
      rw [g]
      assumption
  · intro v' w' h2 h3
    refine h v' w' ?_ h3
    unfold OwnM
    rw [List.length_append, List.flatMap_append]; exact h2
theorem growM_w (n : Nat) (w : World) (hn : n ≤ 1000000000) : Calls Tryz.prog 93 #[.slice none 0 0, .int .i64 n] w (OutM w.heap.size w []) := by
  obtain ⟨i0, hi, hz0, hz1, hz2⟩ := info_parts infoM
  by_cases h0 : n = 0
  · subst h0
    refine (Any8.slices_Grow_room Tryz.growM none 0 0 0 w (Nat.le_refl _) (by omega) (by omega) (by omega)).mono fun e w' ⟨h1, h2⟩ => ?_
    subst h2
    exact ⟨_, h1, World.ownsRow_nil _ _ _ _, Below.refl _ _⟩
  · have hcap := grownCap_ge w (0 + n) 0 25
    have hmax := grownCap_le_maxLen w (0 + n) 0 25 (by unfold maxLen; omega)
    refine (Any8.slices_Grow_grow Tryz.growM i0 _ hi hz0 (by omega) none 0 0 n [] w (Nat.le_refl _) (by omega) (by rw [hz2]; omega) (by omega) (by simp) (fun _ => rfl) (fun a h => by cases h)).mono fun e w' ⟨h1, h2⟩ => ?_
    change w' = w.drew.alloc (.cells _ 25) at h2
    change e = .returned (.slice _ 0 (grownCap w (0 + n) 0 25)) at h1
    have hown : OwnM w' w.heap.size (.slice (some ⟨w.heap.size, 0, none⟩) 0 (grownCap w (0 + n) 0 25)) [] := by
      subst h2
      refine World.ownsRow_made (base := w.heap.size) w.drew _ _ (Nat.le_refl _) hmax ?_
      simp only [Array.size_append, zero_size]
      have h3 : (Value.agg #[.int .i64 0, .string ⟨#[]⟩, .string ⟨#[]⟩, .string ⟨#[]⟩, .string ⟨#[]⟩, .string ⟨#[]⟩, .string ⟨#[]⟩, .int .i64 0]).cells.size = 8 := rfl
      have h4 : (#[] : Array Value).size = 0 := rfl
      rw [h3]
      show 0 + (0 + n - 0) * 8 + (grownCap w (0 + n) 0 25 - (0 + n)) * 8 = grownCap w (0 + n) 0 25 * 8
      omega
    refine ⟨_, h1, hown, ?_⟩
    subst h2
    exact (show Below w.heap.size w w.drew from ⟨rfl, rfl, rfl, Nat.le_refl _, fun _ _ => rfl⟩).trans (show Below w.heap.size w.drew (w.drew.alloc _) from below_box (w := w.drew) _)
/-- The first k lists, joined. -/
def joinM (ls : List (List Ms)) (k : Nat) : List Ms := (ls.take k).flatten
theorem joinM_all (ls : List (List Ms)) : joinM ls ls.length = ls.flatten := by unfold joinM; rw [List.take_length]
theorem joinM_take (ls : List (List Ms)) (k : Nat) (h : k < ls.length) : joinM ls (k + 1) = joinM ls k ++ ls[k] := by
  unfold joinM
  rw [List.take_add_one, List.getElem?_eq_getElem h, List.flatten_append]; simp only [Option.toList, List.flatten_cons, List.flatten_nil, List.append_nil]
theorem joinM_le (ls : List (List Ms)) (k : Nat) : (joinM ls k).length ≤ ls.flatten.length := by
  unfold joinM
  conv => rhs; rw [← List.take_append_drop k ls]
  rw [List.flatten_append, List.length_append]; omega

set_option maxRecDepth 100000 in
set_option maxHeartbeats 4000000 in
theorem concatM_w (T : TypeId) (b : Nat) (vs : List Value) (ls : List (List Ms)) (w : World) (hb : Blk w b T vs.toArray) (hlen : vs.length = ls.length) (hlc : ls.length ≤ 1000)
    (h : ∀ i (hi : i < ls.length) (hv : i < vs.length), IsMsgs w vs[i] ls[i]) (htot : ls.flatten.length ≤ 1000000000) :
    Calls Tryz.prog 74 #[.slice (some ⟨b, 0, none⟩) ls.length ls.length] w (OutM w.heap.size w ls.flatten) := by
  have hblt := hb.lt
  have HB := Lib.hid hb
  have H := Lib.hid h
  have Hlen := Lib.hid hlen
  have htk := joinM_le ls
  have hall := joinM_all ls
  generalize ls.flatten = all at *
  have Hall := Lib.hid hall
  have Htk := Lib.hid htk
  clear h hb hlen htk hall
  go_enter Tryz.func74, Tryz.ntmps74
  go_wp2
  go_loop [3, 11] (fun s i => ∃ k : Nat, k ≤ ls.length ∧ i = .int .i64 k ∧ s = .int .i64 ((joinM ls k).length : Nat)) (fun _ i => ls.length - (intOf i).toNat)
  case atStart => exact ⟨0, Nat.zero_le _, rfl, rfl⟩
  case round =>
    obtain ⟨k, hk, rfl, rfl⟩ := hrel
    by_cases hlt : k < ls.length
    · have hkv : k < vs.length := by have := Hlen.out; omega
      have hkk := H.out k hlt hkv
      have hc0 := HB.out.c0 k vs[k] (by simp [hkv])
      have hft : Hid ((joinM ls (k + 1)).length = (joinM ls k).length + ls[k].length) := Lib.hid (by rw [joinM_take ls k hlt, List.length_append])
      have hle1 := Htk.out k
      have hle2 := Htk.out (k + 1)
      rw [hft.out] at hle2
      have hltz : (k : Int) < (ls.length : Int) := by omega
      obtain ⟨-, -, capk, pk, hvk, -⟩ := hkk.form
      rw [hvk] at hc0
      clear hkk hvk
      generalize (joinM ls k).length = s at *
      generalize ls[k].length = m at *
      go_wp2
      go_round
      case rel => exact ⟨k + 1, by omega, by go_num, by rw [hft.out]; go_num⟩
      case measure => simp [intOf]; omega
    · obtain rfl : k = ls.length := by omega
      rw [Hall.out]
      go_wp2_with fail
      refine (growM_w all.length w htot).mono ?_
      rintro e w1 ⟨vg, rfl, hown, hbel⟩
      have Hown := Lib.hid hown
      have Hbel := Lib.hid hbel
      clear hown hbel
      go_wp2
      go_loopw [6, 27] (fun s i wr => ∃ k : Nat, k ≤ ls.length ∧ i = .int .i64 k ∧ OwnM wr w.heap.size s (joinM ls k) ∧ Below w.heap.size w wr) (fun _ i _ => ls.length - (intOf i).toNat)
      case atStart => exact ⟨0, Nat.zero_le _, rfl, Hown.out, Hbel.out⟩
      case round =>
        obtain ⟨k, hk, rfl, hown, hbel⟩ := hrel
        have Hown := Lib.hid hown
        have Hbel := Lib.hid hbel
        have hsz := hbel.size
        clear hown hbel
        by_cases hlt : k < ls.length
        · have hkv : k < vs.length := by have := Hlen.out; omega
          have hkk := Lib.hid ((H.out k hlt hkv).below Hbel.out)
          have hc0 := (HB.out.below Hbel.out hblt).c0 k vs[k] (by simp [hkv])
          have hft := Lib.hid (joinM_take ls k hlt)
          have hle2 : (joinM ls k).length + ls[k].length ≤ 1000000000 := by
            have := Htk.out (k + 1); rw [hft.out, List.length_append] at this; omega
          have hltz : (k : Int) < (ls.length : Int) := by omega
          generalize vs[k] = vk at *
          generalize ls[k] = lk at *
          generalize (joinM ls k) = left at *
          go_wp2_with (at_builtin; refine append_msgs rfl _ _ rfl w.heap.size _ left rfl Hown.out _ lk rfl hkk.out (by omega) hsz ?_; intro v' w2 hown2 hbel2)
          have Hown2 := Lib.hid hown2
          have Hbel2 := Lib.hid (Hbel.out.trans hbel2)
          clear hown2 hbel2
          go_wp2
          go_roundw
          case rel => exact ⟨k + 1, by omega, by go_num, by rw [hft.out]; exact Hown2.out, Hbel2.out⟩
          case measure => simp [intOf]; omega
        · obtain rfl : k = ls.length := by omega
          rw [Hall.out] at Hown
          go_wp2
          go_ret
          exact ⟨_, rfl, Hown.out, Hbel.out⟩

/-- Every list of right messages is one of the subtype. -/
theorem sub_of {l : List Ms} (h : ∀ m ∈ l, Ok m) : ∃ L : List Mo, L.map (·.1) = l := by
  induction l with
  | nil => exact ⟨[], rfl⟩
  | cons m l ih =>
    obtain ⟨L, hL⟩ := ih (fun x hx => h x (List.mem_cons_of_mem _ hx))
    exact ⟨⟨m, h m List.mem_cons_self⟩ :: L, by rw [List.map_cons, hL]⟩
/-- What Live hands back. -/
def LiveOut (w : World) (l : List Ms) (d : List Sp) (e : Ending) (w' : World) : Prop := ∃ v1 v2, e = .returned (.tuple #[v1, v2]) ∧ IsMsgs w' v1 (liveS l d).1 ∧ IsSpans w' v2 (liveS l d).2 ∧ Below w.heap.size w w'
theorem live_any (v vd : Value) (l : List Ms) (d : List Sp) (w : World) (hm : IsMsgs w v l) (ho : ∀ m ∈ l, Ok m) (hd : IsSpans w vd d) (hl : l.length ≤ 50) (hdl : d.length ≤ 200) :
    Calls Tryz.prog 23 #[v, vd] w (LiveOut w l d) := by
  obtain ⟨L, rfl⟩ := sub_of ho
  exact live_w v vd L d w hm hd (by rw [List.length_map] at hl; exact hl) hdl
/-- A list of messages handed back. -/
def MsOut (w : World) (l : List Ms) (e : Ending) (w' : World) : Prop := ∃ v', e = .returned v' ∧ IsMsgs w' v' l ∧ Below w.heap.size w w'
theorem isSpans_nil (w : World) : IsSpans w (.slice none 0 0) [] := ⟨none, 0, rfl, Nat.le_refl _, by unfold maxLen; omega, fun h => absurd rfl h⟩
set_option maxHeartbeats 2000000 in
theorem reduce_w (v : Value) (l : List Ms) (w : World) (hm : IsMsgs w v l) (ho : ∀ m ∈ l, Ok m) (hl : l.length ≤ 50) : Calls Tryz.prog 27 #[v] w (MsOut w (reduceS l)) := by
  have HL := Lib.hid (live_any v (.slice none 0 0) l [] w hm ho (isSpans_nil w) hl (by simp))
  clear hm ho hl
  go_enter Tryz.func27, Tryz.ntmps27
  go_wp2_with (go_at_call 23; refine HL.out.mono ?_; rintro e w1 ⟨v1, v2, rfl, h1, h2, h3⟩)
  have H1 := Lib.hid h1
  have H3 := Lib.hid h3
  clear h1 h2 h3
  go_wp2
  go_ret
  exact ⟨_, rfl, H1.out, H3.out⟩
set_option maxHeartbeats 2000000 in
theorem merge_w (v u : Value) (a b : List Ms) (w : World) (ha : IsMsgs w v a) (hb : IsMsgs w u b) (oa : ∀ m ∈ a, Ok m) (ob : ∀ m ∈ b, Ok m) (hl : a.length + b.length ≤ 50) : Calls Tryz.prog 29 #[v, u] w (MsOut w (mergeM a b)) := by
  have HC : Hid (∀ T, Calls Tryz.prog 74 #[.slice (some ⟨w.heap.size, 0, none⟩) 2 2] (w.alloc (.cells #[v, u] T)) (OutM (w.heap.size + 1) (w.alloc (.cells #[v, u] T)) (a ++ b))) := Lib.hid fun T => by
    have h := concatM_w T w.heap.size [v, u] [a, b] (w.alloc (.cells #[v, u] T)) (Blk.new _ _ _) rfl (by simp) (fun i hi hv => by
      have : i = 0 ∨ i = 1 := by simp at hi; omega
      rcases this with rfl | rfl
      · exact ha.below (below_box _)
      · exact hb.below (below_box _)) (by simp; omega)
    simpa using h
  have HR := Lib.hid (fun vc wx (h : IsMsgs wx vc (a ++ b)) => reduce_w vc (a ++ b) wx h (fun m hm => (List.mem_append.1 hm).elim (oa m) (ob m)) (by simp; omega))
  obtain ⟨pa, ca, rfl, -⟩ := id ha
  obtain ⟨pb, cb, rfl, -⟩ := id hb
  clear ha hb oa ob hl
  go_enter Tryz.func29, Tryz.ntmps29
  go_wp2_with (go_at_call 74; refine (HC.out _).mono ?_; rintro e w1 ⟨vc, rfl, hc1, hc2⟩)
  have Hb : Hid (Below w.heap.size w w1) := Lib.hid ((below_box _).trans (hc2.mono (by simp)))
  have HR1 := Lib.hid (HR.out _ _ hc1.msgs)
  clear hc1 hc2
  go_wp2_with (go_at_call 27; refine HR1.out.mono ?_; rintro e w2 ⟨v2, rfl, h1, h3⟩)
  have H1 := Lib.hid h1
  have H3 : Hid (Below w.heap.size w w2) := Lib.hid (Hb.out.trans (h3.mono Hb.out.size))
  clear h1 h3
  go_wp2
  go_ret
  exact ⟨_, rfl, H1.out, H3.out⟩

end Go.Proofs.YtpppkjcbheooeaaGreat
namespace Go.Proofs.YtpppkjcbheooeaaGreat
set_option linter.unusedVariables false

open Classical in
/-- What is still to be met of a list, going along another one. -/
noncomputable def restG : List Ms → List Ms → List Ms
  | [], r => r
  | x :: l, [] => restG l []
  | x :: l, y :: r => if x = y then restG l r else restG l (y :: r)
open Classical in
/-- One step more. -/
noncomputable def stepG (r : List Ms) (x : Ms) : List Ms := match r with | [] => [] | y :: r => if x = y then r else y :: r
theorem restG_cons (x : Ms) (l r : List Ms) : restG (x :: l) r = restG l (stepG r x) := by
  cases r with
  | nil => rfl
  | cons y r =>
    rw [restG]; unfold stepG
    by_cases h : x = y
    · rw [if_pos h]; simp only [if_pos h]
    · rw [if_neg h]; simp only [if_neg h]
theorem restG_snoc (x : Ms) (l : List Ms) : ∀ r : List Ms, restG (l ++ [x]) r = stepG (restG l r) x := by
  induction l with
  | nil => intro r; rw [List.nil_append, restG_cons]; rfl
  | cons a l ih => intro r; rw [List.cons_append, restG_cons, restG_cons, ih]
theorem restG_sub : ∀ (l r : List Ms), r.Sublist l → restG l r = []
  | [], r, h => by cases h; rfl
  | x :: l, [], _ => restG_sub l [] (List.nil_sublist _)
  | x :: l, y :: r, h => by
    rw [restG]
    by_cases e : x = y
    · rw [if_pos e]
      subst e
      exact restG_sub l r (List.Sublist.of_cons_cons h)
    · rw [if_neg e]
      refine restG_sub l (y :: r) ?_
      cases h with
      | cons _ h => exact h
      | cons_cons _ h => exact absurd rfl e
theorem stepG_suffix (r : List Ms) (x : Ms) : ∃ k, stepG r x = r.drop k := by
  cases r with
  | nil => exact ⟨0, rfl⟩
  | cons y r =>
    unfold stepG
    by_cases h : x = y
    · exact ⟨1, by simp only [if_pos h]; rfl⟩
    · exact ⟨0, by simp only [if_neg h]; rfl⟩
/-- How many have been met. -/
noncomputable def atG (l r : List Ms) : Nat := r.length - (restG l r).length
theorem restG_drop (l : List Ms) : ∀ r : List Ms, restG l r = r.drop (atG l r) ∧ atG l r ≤ r.length := by
  have h : ∀ r : List Ms, ∃ k, restG l r = r.drop k := by
    induction l with
    | nil => exact fun r => ⟨0, rfl⟩
    | cons x l ih =>
      intro r
      obtain ⟨k, hk⟩ := stepG_suffix r x
      obtain ⟨j, hj⟩ := ih (stepG r x)
      exact ⟨k + j, by rw [restG_cons, hj, hk, List.drop_drop]⟩
  intro r
  obtain ⟨k, hk⟩ := h r
  have e : atG l r = min k r.length := by unfold atG; rw [hk, List.length_drop]; omega
  refine ⟨?_, by unfold atG; omega⟩
  rw [e, hk]
  rcases Nat.le_total k r.length with h | h
  · rw [Nat.min_eq_left h]
  · rw [Nat.min_eq_right h, List.drop_eq_nil_of_le h, List.drop_eq_nil_of_le (Nat.le_refl _)]
theorem atG_nil (r : List Ms) : atG [] r = 0 := by unfold atG restG; omega
theorem atG_sub {l r : List Ms} (h : r.Sublist l) : atG l r = r.length := by unfold atG; rw [restG_sub l r h]; simp
/-- One more: met. -/
theorem atG_yes {l r : List Ms} {x : Ms} (h : atG l r < r.length) (e : x = r[atG l r]) : atG (l ++ [x]) r = atG l r + 1 := by
  have h1 := (restG_drop l r).1
  have h2 : restG (l ++ [x]) r = r.drop (atG l r + 1) := by
    rw [restG_snoc, h1, List.drop_eq_getElem_cons h]
    unfold stepG
    simp only [if_pos e]
  unfold atG at *
  rw [h2, List.length_drop]; omega
/-- One more: not met. -/
theorem atG_no {l r : List Ms} {x : Ms} (h : atG l r < r.length) (e : x ≠ r[atG l r]) : atG (l ++ [x]) r = atG l r := by
  have h1 := (restG_drop l r).1
  have h2 : restG (l ++ [x]) r = restG l r := by
    rw [restG_snoc, h1, List.drop_eq_getElem_cons h]
    unfold stepG
    simp only [if_neg e]
  unfold atG; rw [h2]
theorem atG_end {l r : List Ms} {x : Ms} (h : ¬ atG l r < r.length) : atG (l ++ [x]) r = atG l r := by
  have h1 := restG_drop l r
  have h2 : restG l r = [] := by rw [h1.1]; exact List.drop_eq_nil_of_le (by omega)
  have h3 : restG (l ++ [x]) r = [] := by rw [restG_snoc, h2]; rfl
  unfold atG; rw [h2, h3]

/-- Writing something that is not empty. -/
def WrM (m : Ms) : Prop := ∃ s ∈ writesS m, emptyB s = false
theorem live_nil {m : Ms} (h : WrM m) : liveB [] (writesS m) = true := by obtain ⟨s, h1, h2⟩ := h; exact liveB_nil s h1 h2
theorem reduce_snoc (l : List Ms) (m : Ms) (h : WrM m) : reduceS (l ++ [m]) = (foldB l.reverse (nextD [] m)).1 ++ [m] := reduce_last l m (live_nil h)
theorem reduce_nil : reduceS [] = [] := by unfold reduceS liveS; rfl
/-- The last one stays. -/
theorem reduce_end {l : List Ms} (h : ∀ m ∈ l, WrM m) (hl : l ≠ []) : ∃ r, reduceS l = r ++ [l.getLast hl] := by
  obtain ⟨k, x, rfl⟩ : ∃ k x, l = k ++ [x] := ⟨l.dropLast, l.getLast hl, (List.dropLast_concat_getLast hl).symm⟩
  rw [List.getLast_concat]
  exact ⟨_, reduce_snoc k x (h x (by simp))⟩
/-- Nothing stays before a Drop of all keys. -/
theorem foldB_all : ∀ (r : List Ms) (d : List Sp), (∀ k, InL d k) → foldB r d = ([], d)
  | [], d, _ => rfl
  | m :: r, d, h => by
    rw [foldB, (liveB_iff d (writesS m)).2 (fun k _ => h k)]
    simp only [Bool.false_eq_true, ↓reduceIte]
    exact foldB_all r d h
theorem merge_eff (a b : List Ms) {t : List Pr} (ht : Srt t) : allS (mergeM a b) t = allS b (allS a t) := by
  unfold mergeM
  rw [reduce_eff _ ht]
  unfold allS
  rw [List.foldl_append]
theorem merge_eff2 (a b : List Ms) {t : List Pr} (ht : Srt t) : allS (mergeM (reduceS a) (reduceS b)) t = allS b (allS a t) := by
  rw [merge_eff _ _ ht, reduce_eff a ht, reduce_eff b (srt_allS _ ht)]
theorem merge_len (a b : List Ms) : (mergeM a b).length ≤ a.length + b.length := by
  have := (reduce_sub (a ++ b)).length_le
  rw [List.length_append] at this
  exact this

end Go.Proofs.YtpppkjcbheooeaaGreat
namespace Go.Proofs.YtpppkjcbheooeaaGreat
set_option linter.unusedVariables false
def Few (m : Ms) : Prop := m.key.length ≤ 100 ∧ m.dst.length ≤ 100
theorem apply_keys (m : Ms) (K : Nat) {t : List Pr} (ht : Srt t) (hk : ∀ x ∈ t, x.1.length ≤ K) (hm : Few m) : ∀ x ∈ applyS m t, x.1.length ≤ K + 100 := by
  intro x hx
  have old : x ∈ t → x.1.length ≤ K + 100 := fun h => by have := hk x h; omega
  have hcl : ∀ a b, b.length ≤ 100 → x ∈ cloneT a b t → x.1.length ≤ K + 100 := by
    intro a b hb hx
    rcases (mem_clone a b ht x).1 hx with h | h
    · obtain ⟨r, h1, h2⟩ := (mem_moved a b t x).1 h
      have := hk _ h1
      simp only [List.length_append] at this
      rw [h2, List.length_append]; omega
    · exact old h.1
  unfold applyS at hx
  split at hx
  · rcases (mem_put _ _ _).1 hx with h | h
    · rw [h]; have := hm.1; show m.key.length ≤ K + 100; omega
    · exact old h.1
  split at hx
  · exact old ((mem_del _ _ _).1 hx).1
  split at hx
  · exact old ((mem_drop _ _ _).1 hx).1
  split at hx
  · exact hcl m.src m.dst hm.2 ((mem_drop _ _ _).1 hx).1
  split at hx
  · exact hcl m.src m.dst hm.2 hx
  split at hx
  · obtain ⟨y, hy, rfl⟩ := (mem_stamp _ _ _ _).1 hx
    rw [stampP_key]; have := hk y hy; omega
  · exact old hx
theorem made_few (a b c d e f : Nat) : Few (madeM a b c d e f) := by
  have k1 := key_len b
  have t1 := to_len b d
  unfold Few madeM
  split
  · simp; omega
  split
  · simp; omega
  split
  · simp
  split
  · simp; omega
  split
  · simp; omega
  · simp

theorem all_grow (ms : List Ms) {t : List Pr} (K : Nat) (ht : Srt t) (hk : ∀ x ∈ t, x.1.length ≤ K) (hm : ∀ m ∈ ms, Few m) : ∀ k, k ≤ ms.length → (allS (ms.take k) t).length + 1 ≤ (t.length + 1) * 2 ^ k ∧ ∀ x ∈ allS (ms.take k) t, x.1.length ≤ K + 100 * k
  | 0, _ => by simp only [List.take_zero]; exact ⟨by show t.length + 1 ≤ _; omega, fun x hx => by have := hk x hx; omega⟩
  | k + 1, h => by
    obtain ⟨h1, h2⟩ := all_grow ms K ht hk hm k (by omega)
    have hlt : k < ms.length := h
    rw [all_take ms t k hlt]
    have h3 := apply_len ms[k] (allS (ms.take k) t)
    have h4 := apply_keys ms[k] _ (srt_all (ms.take k) ht) h2 (hm _ (List.getElem_mem hlt))
    refine ⟨?_, fun x hx => ?_⟩
    · rw [Nat.pow_succ, ← Nat.mul_assoc]; omega
    · have := h4 x hx; omega
theorem okAll_many (ms : List Ms) {t : List Pr} (ht : Srt t) (hl : t.length ≤ 80) (hk : ∀ x ∈ t, x.1.length ≤ 100) (hm : ∀ m ∈ ms, Few m) (h20 : ms.length ≤ 20) : OkAll ms t := by
  intro k h
  obtain ⟨h1, h2⟩ := all_grow ms 100 ht hk hm k h
  have h3 : 2 ^ k ≤ 2 ^ 20 := Nat.pow_le_pow_right (by decide) (by omega)
  have h4 : (t.length + 1) * 2 ^ k ≤ 81 * 2 ^ 20 := Nat.mul_le_mul (by omega) h3
  refine ⟨by omega, fun x hx => ?_⟩
  have := h2 x hx; omega
theorem okAll_left {a b : List Ms} {t : List Pr} (h : OkAll (a ++ b) t) : OkAll a t := by
  intro k hk
  have := h k (by rw [List.length_append]; omega)
  rw [List.take_append_of_le_length hk] at this
  exact this
theorem okAll_right {a b : List Ms} {t : List Pr} (h : OkAll (a ++ b) t) : OkAll b (allS a t) := by
  intro k hk
  have := h (a.length + k) (by rw [List.length_append]; omega)
  rw [List.take_length_add_append] at this
  unfold allS at *
  rw [List.foldl_append] at this
  exact this
theorem okAll_end {ms : List Ms} {t : List Pr} (h : OkAll ms t) : (allS ms t).length ≤ 100000000 ∧ ∀ x ∈ allS ms t, x.1.length ≤ 1000000000 := by
  have h1 := h ms.length (Nat.le_refl _)
  rw [List.take_length] at h1
  exact ⟨h1.1, fun x hx => Nat.le_trans (h1.2 x hx) (by omega)⟩
theorem valid_wr {m : Ms} (h : validM m = true) : ∀ s ∈ writesS m, emptyB s = false := by
  intro s hs
  have hf : fitsB m = true := by unfold validM at h; rw [Bool.and_eq_true] at h; exact h.1
  have one : ∀ k : Bs, emptyB (oneS k) = false := fun k => has_nonempty (k := k) ((hasB_iff _ _).1 (by rw [has_one]; simp))
  have pre : ∀ p : Bs, emptyB (preS p) = false := fun p => has_nonempty (k := p) ((hasB_iff _ _).1 (by rw [has_pre]; simp))
  have sp : spanB m.lo m.hi = true → emptyB (m.lo, m.hi) = false := fun h => by
    unfold spanB at h
    rw [Bool.and_eq_true] at h
    simpa using h.1
  rcases kind_cases m h with k | k | k | k | k | k
  all_goals
    simp only [writesS, k] at hs
    simp at hs
  · rw [hs]; exact one _
  · rw [hs]; exact one _
  · rw [hs]; exact sp (by simpa [fitsB, k] using hf)
  · rcases hs with hs | hs <;> (rw [hs]; exact pre _)
  · rw [hs]; exact pre _
  · rw [hs]
    refine sp ?_
    simp [fitsB, k] at hf
    exact hf.1
theorem madeX_ok (x : R6) : Ok (madeX x) := ⟨made_size _ _ _ _ _ _, valid_wr (made_valid _ _ _ _ _ _)⟩
theorem made_kinds (a b c d e f : Nat) : OneToSix (madeM a b c d e f) := by
  unfold OneToSix madeM
  split
  · simp
  split
  · simp
  split
  · simp
  split
  · simp
  split
  · simp
  simp
theorem listS_all (x : List R6) (n : Nat) : ∀ m ∈ listS x n, Ok m ∧ OneToSix m ∧ Few m := by
  intro m hm
  obtain ⟨y, -, rfl⟩ := List.mem_map.1 hm
  exact ⟨madeX_ok y, made_kinds _ _ _ _ _ _, made_few _ _ _ _ _ _⟩
theorem listS_len (x : List R6) (n : Nat) : (listS x n).length ≤ n := by unfold listS; rw [List.length_map]; exact List.length_take_le _ _
/-- What a list that was chosen is, with what was reduced of it. -/
theorem sub_all {P : Ms → Prop} {l : List Ms} (h : ∀ m ∈ l, P m) {r : List Ms} (hr : r.Sublist l) : ∀ m ∈ r, P m := fun m hm => h m (hr.subset hm)

end Go.Proofs.YtpppkjcbheooeaaGreat
