/-
  Walks: the fields of a kind, as pointers. Walks: a message without its fields; messages that are equal; Valid. Walks: a message without its fields; Valid. Walks: Valid.
-/
import Derived.Test.YtmbfghbhajmpiaaGreatMAC
import Derived.Test.YtmbfghbhajmpiaaGreatMRR
namespace Go.Proofs.YtmbfghbhajmpiaaGreat
open Go.RowKit Go.Sort
set_option linter.unusedVariables false

/-- A slice of pointers into block b. -/
def IsPtrs (w : World) (v : Value) (b : Nat) (os : List Nat) : Prop :=
  ∃ p cap, v = .slice p os.length cap ∧ os.length ≤ cap ∧ cap ≤ 100 ∧ (os ≠ [] → ∃ g T, p = some ⟨g, 0, none⟩ ∧ g ≠ b ∧ (T ≠ 5 ∧ T ≠ 161) ∧ Blk w g T (os.map fun o => Value.pointer (some ⟨b, o, none⟩)).toArray)
theorem IsPtrs.nil (w : World) (b : Nat) : IsPtrs w (.slice none 0 0) b [] := ⟨none, 0, rfl, Nat.le_refl _, by omega, fun h => absurd rfl h⟩
theorem IsPtrs.keep {w w' : World} {v : Value} {b : Nat} {os : List Nat} (h : IsPtrs w v b os) (hk : ∀ g T cs, g ≠ b → (T ≠ 5 ∧ T ≠ 161) → Blk w g T cs → Blk w' g T cs) : IsPtrs w' v b os := by
  obtain ⟨p, cap, h1, h2, h3, h4⟩ := h
  refine ⟨p, cap, h1, h2, h3, fun hl => ?_⟩
  obtain ⟨g, T, e, hne, hT, hc⟩ := h4 hl
  exact ⟨g, T, e, hne, hT, hk g T _ hne hT hc⟩
theorem IsPtrs.below {w w' : World} {v : Value} {b : Nat} {os : List Nat} (h : IsPtrs w v b os) (hb : Below w.heap.size w w') : IsPtrs w' v b os := h.keep fun g T cs _ _ hc => hc.below hb hc.lt
theorem IsPtrs.setCell {w : World} {v : Value} {b : Nat} {os : List Nat} (h : IsPtrs w v b os) (o : Nat) (x : Value) : IsPtrs (w.setCell ⟨b, o, none⟩ x) v b os := h.keep fun g T cs hne _ hc => hc.setCell_other hne o x
theorem IsPtrs.form {w : World} {v : Value} {b : Nat} {os : List Nat} (h : IsPtrs w v b os) : ∃ p cap g, v = .slice p os.length cap ∧ os.length ≤ cap ∧ cap ≤ 100 ∧
    ∀ i (h : i < os.length), p = some ⟨g, 0, none⟩ ∧ g ≠ b ∧ g < w.heap.size ∧ w.cell? ⟨g, i, none⟩ = some (.pointer (some ⟨b, os[i], none⟩)) := by
  obtain ⟨p, cap, h1, h2, h3, h4⟩ := h
  by_cases hl : os = []
  · subst hl; exact ⟨p, cap, 0, h1, h2, h3, fun i hi => absurd hi (by simp)⟩
  · obtain ⟨g, T, e, hne, hT, hc⟩ := h4 hl
    exact ⟨p, cap, g, h1, h2, h3, fun i hi => ⟨e, hne, hc.lt, by rw [hc.cell]; simp [hi]⟩⟩
theorem ptrs_blk {w : World} {b g : Nat} {T : TypeId} (os : List Nat) (h : Blk w g T (os.map fun o => Value.pointer (some ⟨b, o, none⟩)).toArray) (hT : T ≠ 5 ∧ T ≠ 161) (hne : g ≠ b) (hl : os.length ≤ 100) : IsPtrs w (.slice (some ⟨g, 0, none⟩) os.length os.length) b os :=
  ⟨_, _, rfl, Nat.le_refl _, hl, fun _ => ⟨g, T, rfl, hne, hT, h⟩⟩
def tOff (k : Int) : List Nat := if k = 1 then [1, 2] else if k = 2 then [1] else if k = 3 then [3, 4] else if k = 4 then [5, 6] else if k = 5 then [5, 6] else if k = 6 then [3, 4] else []
def nOff (k : Int) : List Nat := if k = 1 then [7] else if k = 6 then [7] else []
def FieldsOut (w : World) (b : Nat) (ts ns : List Nat) (e : Ending) (w' : World) : Prop := ∃ v1 v2, e = .returned (.tuple #[v1, v2]) ∧ IsPtrs w' v1 b ts ∧ IsPtrs w' v2 b ns ∧ Grown w w'

theorem ptrs1 {w : World} {b n : Nat} {T : TypeId} (o : Nat) (hn : n = w.heap.size) (hb : b < n) (hT : T ≠ 5 ∧ T ≠ 161 := by decide) : IsPtrs (w.alloc (.cells #[.pointer (some ⟨b, o, none⟩)] T)) (.slice (some ⟨n, 0, none⟩) 1 1) b [o] := by
  subst hn; exact ptrs_blk [o] (Blk.new w T _) hT (by omega) (by simp)
theorem ptrs2 {w : World} {b n : Nat} {T : TypeId} (o q : Nat) (hn : n = w.heap.size) (hb : b < n) (hT : T ≠ 5 ∧ T ≠ 161 := by decide) : IsPtrs (w.alloc (.cells #[.pointer (some ⟨b, o, none⟩), .pointer (some ⟨b, q, none⟩)] T)) (.slice (some ⟨n, 0, none⟩) 2 2) b [o, q] := by
  subst hn; exact ptrs_blk [o, q] (Blk.new w T _) hT (by omega) (by simp)
theorem IsPtrs.alloc {w : World} {v : Value} {b : Nat} {os : List Nat} (h : IsPtrs w v b os) (o : Obj) : IsPtrs (w.alloc o) v b os := h.below (below_box _)
theorem IsPtrs.drew {w : World} {v : Value} {b : Nat} {os : List Nat} (h : IsPtrs w v b os) : IsPtrs w.drew v b os := h.below (below_drewN w 1)

set_option maxRecDepth 100000 in
set_option maxHeartbeats 2000000 in
theorem fields_put (b : Nat) (w : World) (hb : b < w.heap.size) : Calls Tryz.prog 292 #[ptrV b] w (FieldsOut w b [1, 2] [7]) := by
  go_enter Tryz.func292, Tryz.ntmps292
  go_wp2
  go_region
  all_goals go_wp2
  all_goals
    go_ret2
    refine ⟨_, _, rfl, ?_, ?_, ?_⟩
    · first
        | exact (ptrs2 1 2 rfl hb).alloc _
        | exact ptrs2 1 2 (World.size_alloc _ _).symm (Nat.lt_succ_of_lt hb)
    · first
        | exact (ptrs1 7 rfl hb).alloc _
        | exact ptrs1 7 (World.size_alloc _ _).symm (Nat.lt_succ_of_lt hb)
    · repeat (first | exact Grown.refl _ | refine Grown.alloc ?_ _ | refine Grown.draw ?_)
set_option maxRecDepth 100000 in
set_option maxHeartbeats 2000000 in
theorem fields_del (b : Nat) (w : World) (hb : b < w.heap.size) : Calls Tryz.prog 307 #[ptrV b] w (FieldsOut w b [1] []) := by
  go_enter Tryz.func307, Tryz.ntmps307
  go_wp2
  go_ret2
  exact ⟨_, _, rfl, ptrs1 1 rfl hb, IsPtrs.nil _ _, (Grown.refl w).alloc _⟩
set_option maxRecDepth 100000 in
set_option maxHeartbeats 2000000 in
theorem fields_drop (b : Nat) (w : World) (hb : b < w.heap.size) : Calls Tryz.prog 315 #[ptrV b] w (FieldsOut w b [3, 4] []) := by
  go_enter Tryz.func315, Tryz.ntmps315
  go_wp2
  go_region
  all_goals go_wp2
  all_goals
    go_ret2
    refine ⟨_, _, rfl, ptrs2 3 4 rfl (by simpa using hb), IsPtrs.nil _ _, ?_⟩
    repeat (first | exact Grown.refl _ | refine Grown.alloc ?_ _ | refine Grown.draw ?_)
set_option maxRecDepth 100000 in
set_option maxHeartbeats 2000000 in
theorem fields_clone (b : Nat) (w : World) (hb : b < w.heap.size) : Calls Tryz.prog 329 #[ptrV b] w (FieldsOut w b [5, 6] []) := by
  go_enter Tryz.func329, Tryz.ntmps329
  go_wp2
  go_region
  all_goals go_wp2
  all_goals
    go_ret2
    refine ⟨_, _, rfl, ptrs2 5 6 rfl (by simpa using hb), IsPtrs.nil _ _, ?_⟩
    repeat (first | exact Grown.refl _ | refine Grown.alloc ?_ _ | refine Grown.draw ?_)
set_option maxHeartbeats 1000000 in
theorem fields_move (b : Nat) (w : World) (hb : b < w.heap.size) : Calls Tryz.prog 322 #[ptrV b] w (FieldsOut w b [5, 6] []) := by
  have H := Lib.hid (fields_clone b w hb)
  clear hb
  go_enter Tryz.func322, Tryz.ntmps322
  go_wp2_with fail
  refine H.out.mono ?_
  intro e w2 h2
  have H2 := Lib.hid h2
  obtain ⟨v1, v2, rfl, -⟩ := h2
  go_wp2
  go_ret2
  exact H2.out
set_option maxRecDepth 100000 in
set_option maxHeartbeats 2000000 in
theorem fields_stamp (b : Nat) (w : World) (hb : b < w.heap.size) : Calls Tryz.prog 342 #[ptrV b] w (FieldsOut w b [3, 4] [7]) := by
  go_enter Tryz.func342, Tryz.ntmps342
  go_wp2
  go_region
  all_goals go_wp2
  all_goals
    go_ret2
    refine ⟨_, _, rfl, ?_, ?_, ?_⟩
    · first
        | exact (ptrs2 3 4 rfl hb).alloc _
        | exact ptrs2 3 4 (World.size_alloc _ _).symm (Nat.lt_succ_of_lt hb)
    · first
        | exact (ptrs1 7 rfl hb).alloc _
        | exact ptrs1 7 (World.size_alloc _ _).symm (Nat.lt_succ_of_lt hb)
    · repeat (first | exact Grown.refl _ | refine Grown.alloc ?_ _ | refine Grown.draw ?_)
theorem fields_none (b : Nat) (w : World) : Calls Tryz.prog 348 #[ptrV b] w (FieldsOut w b [] []) := by
  go_enter Tryz.func348, Tryz.ntmps348
  go_wp2
  go_ret2
  exact ⟨_, _, rfl, IsPtrs.nil _ _, IsPtrs.nil _ _, Grown.refl _⟩
theorem fieldsF_w (k : Int) (b : Nat) (w : World) (hb : b < w.heap.size) : Calls Tryz.prog (fieldsF k) #[ptrV b] w (FieldsOut w b (tOff k) (nOff k)) := by
  unfold fieldsF pickF tOff nOff
  by_cases h1 : k = 1
  · simp only [h1]; exact fields_put b w hb
  by_cases h2 : k = 2
  · simp only [h2]; exact fields_del b w hb
  by_cases h3 : k = 3
  · simp only [h3]; exact fields_drop b w hb
  by_cases h4 : k = 4
  · simp only [h4]; exact fields_move b w hb
  by_cases h5 : k = 5
  · simp only [h5]; exact fields_clone b w hb
  by_cases h6 : k = 6
  · simp only [h6]; exact fields_stamp b w hb
  simp only [h1, h2, h3, h4, h5, h6, if_false]
  exact fields_none b w

end Go.Proofs.YtmbfghbhajmpiaaGreat
namespace Go.Proofs.YtmbfghbhajmpiaaGreat
open Go.RowKit Go.Sort
set_option linter.unusedVariables false

def setT (cs : Array Value) (os : List Nat) : Array Value := os.foldl (fun c o => c.setIfInBounds o (.string (Str []))) cs
def setN (cs : Array Value) (os : List Nat) : Array Value := os.foldl (fun c o => c.setIfInBounds o (.int .i64 0)) cs
theorem setT_take (cs : Array Value) (os : List Nat) (k : Nat) (h : k < os.length) : setT cs (os.take (k + 1)) = (setT cs (os.take k)).setIfInBounds os[k] (.string (Str [])) := by
  unfold setT; rw [List.take_add_one, List.getElem?_eq_getElem h, List.foldl_append]; rfl
theorem setN_take (cs : Array Value) (os : List Nat) (k : Nat) (h : k < os.length) : setN cs (os.take (k + 1)) = (setN cs (os.take k)).setIfInBounds os[k] (.int .i64 0) := by
  unfold setN; rw [List.take_add_one, List.getElem?_eq_getElem h, List.foldl_append]; rfl
theorem setT_size (cs : Array Value) (os : List Nat) : (setT cs os).size = cs.size := by
  unfold setT
  induction os generalizing cs with
  | nil => rfl
  | cons o os ih => rw [List.foldl_cons, ih]; simp
theorem setN_size (cs : Array Value) (os : List Nat) : (setN cs os).size = cs.size := by
  unfold setN
  induction os generalizing cs with
  | nil => rfl
  | cons o os ih => rw [List.foldl_cons, ih]; simp
theorem tOff_lt (k : Int) : ∀ o ∈ tOff k, o < 8 := by
  unfold tOff
  intro o ho
  split at ho
  · simp at ho; omega
  split at ho
  · simp at ho; omega
  split at ho
  · simp at ho; omega
  split at ho
  · simp at ho; omega
  split at ho
  · simp at ho; omega
  split at ho
  · simp at ho; omega
  cases ho
theorem nOff_lt (k : Int) : ∀ o ∈ nOff k, o < 8 := by
  unfold nOff
  intro o ho
  split at ho
  · simp at ho; omega
  split at ho
  · simp at ho; omega
  cases ho
theorem bare_cells (m : Ms) : setN (setT (encM m) (tOff m.kind)) (nOff m.kind) = encM (bareM m) := by
  unfold tOff nOff bareM
  by_cases h1 : m.kind = 1
  · simp [h1, setT, setN]
  by_cases h2 : m.kind = 2
  · simp [h2, setT, setN]
  by_cases h3 : m.kind = 3
  · simp [h3, setT, setN]
  by_cases h4 : m.kind = 4
  · simp [h4, setT, setN]
  by_cases h5 : m.kind = 5
  · simp [h5, setT, setN]
  by_cases h6 : m.kind = 6
  · simp [h6, setT, setN]
  simp [h1, h2, h3, h4, h5, h6, setT, setN]

theorem ite_and {α : Type} (p : Prop) [Decidable p] (f : Bool → α) (x : Bool) (t : α) (h : t = f x) : (if p then t else f false) = f (decide p && x) := by
  by_cases hp : p <;> simp [hp, h]
theorem eql_msg (a b : Ms) (w : World) : (binOp .eql 46 (msgV a) (msgV b)).run Tryz.prog w = .ok (.bool (decide (a = b))) w := by
  obtain ⟨a0, a1, a2, a3, a4, a5, a6, a7⟩ := a
  obtain ⟨b0, b1, b2, b3, b4, b5, b6, b7⟩ := b
  have hS : Tryz.prog.underlying 46 = some (.struct (Tryz.prog.fieldsOf 46)) := by kernel_rfl
  have hp : Tryz.prog.stoodInHeld 46 = false := by kernel_rfl
  rw [run_eql_struct, show (10000 : Nat) = 9999 + 1 from rfl, run_equalIn_agg w 9999 46 _ _ hS hp]
  simp only [Program.fieldsOf, Tryz.underlying46]
  go_simp
  iterate 7 (refine ite_and _ (fun b => Result.ok (Value.bool b) w) _ _ ?_)
  by_cases h : a7 = b7 <;> simp [h]
theorem guard_msg (op : BinOp) (x y : Operand) (xs ys : Array Value) (w : World) : (eqGuard op 46 x y (.agg xs) (.agg ys)).run Tryz.prog w = .ok () w := run_eqGuard_agg w op 46 x y xs ys (by kernel_rfl)
theorem neq_msg (a b : Ms) (w : World) : (binOp .neq 46 (msgV a) (msgV b)).run Tryz.prog w = .ok (.bool (!decide (a = b))) w := by
  have h := eql_msg a b w
  rw [run_eql_struct] at h
  rw [run_neq_struct]
  have e : (Op.equalIn 10000 46 (msgV a) (msgV b)).run Tryz.prog w = .ok (decide (a = b)) w := by
    revert h
    cases (Op.equalIn 10000 46 (msgV a) (msgV b)).run Tryz.prog w <;> simp [Result.andThen]
  rw [e]; rfl

end Go.Proofs.YtmbfghbhajmpiaaGreat
namespace Go.Proofs.YtmbfghbhajmpiaaGreat
open Go.RowKit Go.Sort
set_option linter.unusedVariables false

/-- What stays while the fields are struck. -/
structure BareSt (w : World) (v1 v2 : Value) (ts ns : List Nat) (cs : Array Value) (wx : World) : Prop where
  b : Blk wx w.heap.size 46 cs
  r : Blk wx (w.heap.size + 1) 46 (encM (zeroM 0))
  p1 : IsPtrs wx v1 w.heap.size ts
  p2 : IsPtrs wx v2 w.heap.size ns
  g : Grown w wx
theorem BareSt.set {w wx : World} {v1 v2 : Value} {ts ns : List Nat} {cs : Array Value} (h : BareSt w v1 v2 ts ns cs wx) (o : Nat) (x : Value) :
    BareSt w v1 v2 ts ns (cs.setIfInBounds o x) (wx.setCell ⟨w.heap.size, o, none⟩ x) :=
  ⟨h.b.setCell o x, h.r.setCell_other (by omega) o x, h.p1.setCell o x, h.p2.setCell o x, h.g.setCell _ _ _ (Nat.le_refl _)⟩

set_option maxRecDepth 100000 in
set_option maxHeartbeats 4000000 in
theorem bare_w (m : Ms) (w : World) : Calls Tryz.prog 102 #[msgV m] w fun e w' => e = .returned (msgV (bareM m)) ∧ Grown w w' := by
  obtain ⟨W0, hW0⟩ : ∃ W0, W0 = (w.alloc (.cells (encM m) 46)).alloc (.cells (encM (zeroM 0)) 46) := ⟨_, rfl⟩
  have b0 : Blk W0 w.heap.size 46 (encM m) := by rw [hW0]; exact (Blk.new _ _ _).alloc _
  have b1 : Blk W0 (w.heap.size + 1) 46 (encM (zeroM 0)) := by rw [hW0]; exact Blk.new' _ _ _ (by simp)
  have g0 : Grown w W0 := by rw [hW0]; exact ((Grown.refl w).alloc _).alloc _
  have HO := Lib.hid (of_w m.kind w.heap.size W0 (b0.c0 0 _ rfl))
  have HF := Lib.hid (fieldsF_w m.kind w.heap.size W0 b0.lt)
  have hm := disp_fields.m m.kind w.heap.size
  have hc := disp_fields.c m.kind
  have Hcells := Lib.hid (bare_cells m)
  have hts := tOff_lt m.kind
  have hns := nOff_lt m.kind
  have HSt : Hid (∀ v1 v2 wx, IsPtrs wx v1 w.heap.size (tOff m.kind) → IsPtrs wx v2 w.heap.size (nOff m.kind) → Grown W0 wx → BareSt w v1 v2 (tOff m.kind) (nOff m.kind) (encM m) wx) := Lib.hid (fun v1 v2 wx h1 h2 hg => ⟨Grown.blk hg b0, Grown.blk hg b1, h1, h2, g0.trans hg⟩)
  clear b0 b1 g0
  generalize tOff m.kind = ts at *
  generalize nOff m.kind = ns at *
  have Hts := Lib.hid hts
  have Hns := Lib.hid hns
  clear hts hns
  go_enter Tryz.func102, Tryz.ntmps102
  go_wp2_with fail
  subst hW0
  refine HO.out.mono ?_
  rintro e w1 ⟨rfl, rfl⟩
  go_wp2_with fail
  refine HF.out.mono ?_
  rintro e w2 ⟨v1, v2, rfl, q1, q2, hg⟩
  have HS := Lib.hid (HSt.out v1 v2 w2 q1 q2 hg)
  obtain ⟨a1, cap1, g1, rfl, l1, m1, hc1⟩ := q1.form
  obtain ⟨a2, cap2, g2, rfl, l2, m2, hc2⟩ := q2.form
  clear q1 q2 hg hc1 hc2 hm hc HO HF HSt
  go_wp2
  go_loopw [16] (fun i wr => ∃ k : Nat, k ≤ ts.length ∧ i = .int .i64 k ∧ BareSt w (.slice a1 ts.length cap1) (.slice a2 ns.length cap2) ts ns (setT (encM m) (ts.take k)) wr) (fun i _ => ts.length - (intOf i).toNat)
  case atStart => exact ⟨0, Nat.zero_le _, rfl, HS.out⟩
  case round =>
    clear HS
    obtain ⟨k, hk, rfl, hs⟩ := hrel
    have HS := Lib.hid hs
    by_cases hlt : k < ts.length
    · obtain ⟨p, cap, g, hv, -, -, hcc⟩ := hs.p1.form
      obtain ⟨rfl, hne, hgl, c0⟩ := hcc k hlt
      injection hv with hv1 hv2 hv3
      subst hv1
      clear hv2 hv3 hcc
      have hltz : (k : Int) < (ts.length : Int) := by omega
      have Htk := Lib.hid (setT_take (encM m) ts k hlt)
      have ho := Hts.out ts[k] (List.getElem_mem hlt)
      obtain ⟨u, hu⟩ : ∃ u, (setT (encM m) (ts.take k))[ts[k]]? = some u := ⟨_, Array.getElem?_eq_getElem (show ts[k] < (setT (encM m) (ts.take k)).size from by rw [setT_size]; exact ho)⟩
      have hcell := hs.b.c0 _ _ hu
      have hfr := hs.b.free ts[k]
      have HS2 := Lib.hid (hs.set ts[k] (.string (Str [])))
      clear hs hu ho
      generalize ts[k] = o at *
      go_wp2
      go_roundw
      case rel => exact ⟨k + 1, by omega, by go_num, by rw [Htk.out]; exact HS2.out⟩
      case measure => simp [intOf]; omega
    · obtain rfl : k = ts.length := by omega
      rw [List.take_length] at HS
      clear hs
      go_wp2
      go_loopw [25] (fun i wr => ∃ k : Nat, k ≤ ns.length ∧ i = .int .i64 k ∧ BareSt w (.slice a1 ts.length cap1) (.slice a2 ns.length cap2) ts ns (setN (setT (encM m) ts) (ns.take k)) wr) (fun i _ => ns.length - (intOf i).toNat)
      case atStart => exact ⟨0, Nat.zero_le _, rfl, HS.out⟩
      case round =>
        clear HS
        obtain ⟨k, hk, rfl, hs⟩ := hrel
        have HS := Lib.hid hs
        by_cases hlt : k < ns.length
        · obtain ⟨p, cap, g, hv, -, -, hcc⟩ := hs.p2.form
          obtain ⟨rfl, hne, hgl, c0⟩ := hcc k hlt
          injection hv with hv1 hv2 hv3
          subst hv1
          clear hv2 hv3 hcc
          have hltz : (k : Int) < (ns.length : Int) := by omega
          have Htk := Lib.hid (setN_take (setT (encM m) ts) ns k hlt)
          have ho := Hns.out ns[k] (List.getElem_mem hlt)
          obtain ⟨u, hu⟩ : ∃ u, (setN (setT (encM m) ts) (ns.take k))[ns[k]]? = some u := ⟨_, Array.getElem?_eq_getElem (show ns[k] < (setN (setT (encM m) ts) (ns.take k)).size from by rw [setN_size, setT_size]; exact ho)⟩
          have hcell := hs.b.c0 _ _ hu
          have hfr := hs.b.free ns[k]
          have HS2 := Lib.hid (hs.set ns[k] (.int .i64 0))
          clear hs hu ho
          generalize ns[k] = o at *
          go_wp2
          go_roundw
          case rel => exact ⟨k + 1, by omega, by go_num, by rw [Htk.out]; exact HS2.out⟩
          case measure => simp [intOf]; omega
        · obtain rfl : k = ns.length := by omega
          rw [List.take_length, Hcells.out] at HS
          obtain ⟨c0, c1, c2, c3, c4, c5, c6, c7⟩ := MBlk.plain HS.out.b
          obtain ⟨d0, d1, d2, d3, d4, d5, d6, d7⟩ := MBlk.plain HS.out.r
          have f0 := HS.out.r.free 0
          have f1 := HS.out.r.free 1
          have f2 := HS.out.r.free 2
          have f3 := HS.out.r.free 3
          have f4 := HS.out.r.free 4
          have f5 := HS.out.r.free 5
          have f6 := HS.out.r.free 6
          have f7 := HS.out.r.free 7
          clear hs Hcells
          obtain ⟨q, hq⟩ : ∃ q, q = bareM m := ⟨_, rfl⟩
          rw [← hq] at c0 c1 c2 c3 c4 c5 c6 c7 HS
          have Hq := Lib.hid hq
          clear hq
          go_wp2
          refine bodyPost_ret (v := msgV q) (by simp [results, Tryz.results102, go_sem, d0, d1, d2, d3, d4, d5, d6, d7]) rfl ⟨by rw [Hq.out], ?_⟩
          exact (Grown.setCell (Grown.setCell (Grown.setCell (Grown.setCell (Grown.setCell (Grown.setCell (Grown.setCell (Grown.setCell HS.out.g _ _ _ (Nat.le_succ _)) _ _ _ (Nat.le_succ _)) _ _ _ (Nat.le_succ _)) _ _ _ (Nat.le_succ _)) _ _ _ (Nat.le_succ _)) _ _ _ (Nat.le_succ _)) _ _ _ (Nat.le_succ _)) _ _ _ (Nat.le_succ _))

end Go.Proofs.YtmbfghbhajmpiaaGreat
namespace Go.Proofs.YtmbfghbhajmpiaaGreat
open Go.RowKit Go.Sort
set_option linter.unusedVariables false

theorem of_g (k : Int) (b : Nat) (w : World) (h : w.cell? ⟨b, 0, none⟩ = some (.int .i64 k)) : Calls Tryz.prog 101 #[ptrV b] w fun e w' => e = .returned (.iface (kindT k) (ptrV b)) ∧ Grown w w' :=
  (of_w k b w h).mono fun e w' ⟨h1, h2⟩ => ⟨h1, h2 ▸ Grown.refl _⟩
set_option maxRecDepth 100000 in
set_option maxHeartbeats 4000000 in
theorem valid_w (m : Ms) (w : World) : Calls Tryz.prog 38 #[msgV m] w fun e w' => e = .returned (.bool (validM m)) ∧ Grown w w' := by
  obtain ⟨W0, hW0⟩ : ∃ W0, W0 = w.alloc (.cells (encM m) 46) := ⟨_, rfl⟩
  have b0 : MBlk W0 w.heap.size m := by rw [hW0]; exact Blk.new _ _ _
  have g0 : Grown w W0 := by rw [hW0]; exact (Grown.refl w).alloc _
  have HO := Lib.hid (fun n os => of_g m.kind w.heap.size (grow (W0.drewN n) os) ((b0.grown n os).c0 0 _ rfl))
  have hF := fun n os => fits_w w.heap.size m (grow (W0.drewN n) os) (b0.grown n os)
  have HB := Lib.hid (fun wx => bare_w m wx)
  have hm := disp_fits.m m.kind w.heap.size
  have hc := disp_fits.c m.kind
  have H : Hid (validM m = (fitsB m && decide (bareM m = zeroM m.kind))) := Lib.hid rfl
  have c0 : ∀ n os, (grow (W0.drewN n) os).cell? ⟨w.heap.size, 0, none⟩ = some (.int .i64 m.kind) := b0.c 0 _ rfl
  have c1 : ∀ n os, (grow (W0.drewN n) os).cell? ⟨w.heap.size, 1, none⟩ = some (.string (Str m.key)) := b0.c 1 _ rfl
  have c2 : ∀ n os, (grow (W0.drewN n) os).cell? ⟨w.heap.size, 2, none⟩ = some (.string (Str m.val)) := b0.c 2 _ rfl
  have c3 : ∀ n os, (grow (W0.drewN n) os).cell? ⟨w.heap.size, 3, none⟩ = some (.string (Str m.lo)) := b0.c 3 _ rfl
  have c4 : ∀ n os, (grow (W0.drewN n) os).cell? ⟨w.heap.size, 4, none⟩ = some (.string (Str m.hi)) := b0.c 4 _ rfl
  have c5 : ∀ n os, (grow (W0.drewN n) os).cell? ⟨w.heap.size, 5, none⟩ = some (.string (Str m.src)) := b0.c 5 _ rfl
  have c6 : ∀ n os, (grow (W0.drewN n) os).cell? ⟨w.heap.size, 6, none⟩ = some (.string (Str m.dst)) := b0.c 6 _ rfl
  have c7 : ∀ n os, (grow (W0.drewN n) os).cell? ⟨w.heap.size, 7, none⟩ = some (.int .i64 m.n) := b0.c 7 _ rfl
  have heq : ∀ wx, (binOp .eql 46 (msgV (bareM m)) (.agg #[.int .i64 m.kind, .string ⟨#[]⟩, .string ⟨#[]⟩, .string ⟨#[]⟩, .string ⟨#[]⟩, .string ⟨#[]⟩, .string ⟨#[]⟩, .int .i64 0])).run Tryz.prog wx = .ok (.bool (decide (bareM m = zeroM m.kind))) wx := fun wx => eql_msg (bareM m) (zeroM m.kind) wx
  have hgd : ∀ x y wx, (eqGuard .eql 46 x y (msgV (bareM m)) (.agg #[.int .i64 m.kind, .string ⟨#[]⟩, .string ⟨#[]⟩, .string ⟨#[]⟩, .string ⟨#[]⟩, .string ⟨#[]⟩, .string ⟨#[]⟩, .int .i64 0])).run Tryz.prog wx = .ok () wx := fun x y wx => guard_msg .eql x y (encM (bareM m)) (encM (zeroM m.kind)) wx
  have mixed := mixedA
  have Hg0 := Lib.hid g0
  clear b0 g0
  generalize decide (bareM m = zeroM m.kind) = r at *
  cases hfb : fitsB m with
  | false =>
    rw [hfb] at hF H
    have HF := Lib.hid hF
    clear hfb hF
    go_enter Tryz.func38, Tryz.ntmps38
    go_wp2_with fail
    subst hW0
    go_quiet_grown (first
      | (go_at_call 101; refine calls_grown (HO.out _ _))
      | (go_at_call 102; refine calls_grown (HB.out _))
      | (with_reducible refine calls_grown (HF.out _ _)))
    go_wp2
    go_ret
    exact ⟨ret_bool (by rw [H.out]; rfl), Hg0.out.trans ⟨_, _, rfl⟩⟩
  | true =>
    rw [hfb] at hF H
    have HF := Lib.hid hF
    clear hfb hF
    go_enter Tryz.func38, Tryz.ntmps38
    go_wp2_with fail
    subst hW0
    go_quiet_grown (first
      | (go_at_call 101; refine calls_grown (HO.out _ _))
      | (go_at_call 102; refine calls_grown (HB.out _))
      | (with_reducible refine calls_grown (HF.out _ _)))
    go_wp2
    go_ret
    exact ⟨ret_bool (by rw [H.out]; rfl), Hg0.out.trans ⟨_, _, rfl⟩⟩

end Go.Proofs.YtmbfghbhajmpiaaGreat
