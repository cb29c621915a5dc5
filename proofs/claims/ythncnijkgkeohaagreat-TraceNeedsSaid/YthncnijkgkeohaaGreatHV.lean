/-
  Walks: a key followed back through messages.
-/
import Derived.Sort.CutIn
import Derived.Stop.RegionWithIn
import Derived.Laws.EntriesVeiled
import Derived.Test.YthncnijkgkeohaaGreatHU
import Derived.Test.YthncnijkgkeohaaGreatHR
namespace Go.Proofs.YthncnijkgkeohaaGreat
open Go.RowKit Go.Sort Go.Shelf
set_option linter.unusedVariables false
attribute [local go_sem] Oper.semAt_some

theorem grown_cell {w w' : World} (h : Grown w w') {b i : Nat} {v : Value} (hc : w.cell? ⟨b, i, none⟩ = some v) : w'.cell? ⟨b, i, none⟩ = some v := by
  have hb : b < w.heap.size := by
    cases e : w.heap[b]? with
    | none => unfold World.cell? at hc; simp only [e] at hc; cases hc
    | some o => exact (Array.getElem?_eq_some_iff.1 e).1
  rw [(h.below (Nat.le_refl _)).cell hb]; exact hc
theorem KpB.put {n₀ Bs : Nat} {w : World} (hn : n₀ ≤ w.heap.size) (hB : Bs < w.heap.size) (W : World) (l : Nat) (o o' : Obj) (hl : w.heap.size ≤ l) (h : W.heap[l]? = some o) (h1 : o.isCells = false) (h2 : o.isWalk = false) : KpB n₀ Bs W (W.putObj l o') :=
  ⟨belowK_b hn W l o o' hl h h1 h2, (grownBy_putObj' W l o').block Bs (by have := (Array.getElem?_eq_some_iff.1 h).1; omega) (fun e => by have : Bs = l := Option.some.inj e; omega)⟩
theorem blk_kept {w w' : World} {b : Nat} {T : TypeId} {cs : Array Value} {row : Option Nat} (h : Blk w b T cs) (hg : w.grownBy w' row) (hne : some b ≠ row) : Blk w' b T cs := by
  unfold Blk at *
  rw [hg.block b (Array.getElem?_eq_some_iff.1 h).1 hne]
  exact h
theorem blk_notcells {w : World} {b : Nat} {T : TypeId} {cs : Array Value} (h : Blk w b T cs) {o : Obj} (ho : w.heap[b]? = some o) (hc : o.isCells = false) : False := by
  unfold Blk at h
  rw [h] at ho; cases ho; cases hc
theorem boxed_below {W W' : World} {B : Nat} {t : TypeId} {v : Value} (h : Boxed W B t v) (hb : Below W.heap.size W W') : Boxed W' B t v := (hb.block B h.lt).trans h
theorem keeps_row {W W' : World} {base size n : Nat} {e : TypeId} {v : Value} {xs : List Value} (h : W.ownsRow base e size v n xs) (hg : W.grownBy W' v.ownBlock) : KeepsOthers W W' :=
  KeepsOthers.of_grownBy hg fun j o ej hj => by
    rcases h.2 with ⟨rfl, _⟩ | ⟨g, cap, cur, rfl, _, hgb, _⟩
    · cases ej
    · have e2 : g = j := Option.some.inj ej
      subst e2
      rw [hgb] at hj; cases hj; rfl
theorem keeps_below {W W' : World} (h : Below W.heap.size W W') : KeepsOthers W W' := KeepsOthers.of_grownBy (grownBy_below h none) (fun _ _ h => by cases h)
theorem below_row {B : Nat} {W W' : World} {base size n : Nat} {e : TypeId} {v : Value} {xs : List Value} (h : W.ownsRow base e size v n xs) (hg : W.grownBy W' v.ownBlock) (hB : B ≤ base) (hw : base ≤ W.heap.size) : Below B W W' :=
  (Below.refl B W).grown hg (by omega) (fun k ek => Nat.le_trans hB (h.lt k ek).1)

set_option maxHeartbeats 2000000 in
theorem keyLooks_w (w : World) : Calls Tryz.prog 44 #[] w fun e w' => e = .returned (looksV (w.heap.size + 1)) ∧ w'.cell? ⟨w.heap.size + 1, 0, none⟩ = some fn1V ∧ Grown w w' := by
  go_enter Tryz.func44, Tryz.ntmps44
  go_wp2
  refine bodyPost_ret (v := looksV (w.heap.size + 1)) (by simp [results, Tryz.results44, go_sem]) rfl ⟨rfl, (Blk.new' (n := w.heap.size + 1) _ _ #[fn1V] (by simp)).c0 0 _ rfl, ((Grown.refl w).alloc _).alloc _⟩

/-! ### The state between two rounds -/
def stF (k : Bs) (pre : List (Int × Mo)) : Fd := (pre.map fun x => x.2.1).foldl (fun f m => lookK m f) (startF k)
theorem stF_snoc (k : Bs) (pre : List (Int × Mo)) (x : Int × Mo) : stF k (pre ++ [x]) = lookK x.2.1 (stF k pre) := by unfold stF; rw [List.map_append, List.foldl_append]; rfl
theorem moved_len (k a b : Bs) {j : Bs} (h : movedS k a b = some j) : j.length ≤ k.length + b.length := by
  unfold movedS at h
  split at h
  · cases h; rw [List.length_append, List.length_drop]; omega
  · cases h
theorem look_len (m : Ms) (f : Fd) : (lookK m f).key.length ≤ f.key.length + m.src.length := by
  have hb : (backF m f).key.length ≤ f.key.length + m.src.length := by
    unfold backF
    cases h : movedS f.key m.dst m.src with
    | none => exact Nat.le_add_right _ _
    | some j => exact moved_len _ _ _ h
  have he : ∀ b, (endF b f).key.length ≤ f.key.length + m.src.length := fun b => by
    unfold endF; split
    · exact Nat.zero_le _
    · exact Nat.le_add_right _ _
  unfold lookK
  split
  · split
    · exact Nat.zero_le _
    · exact Nat.le_add_right _ _
  split
  · exact he _
  split
  · exact he _
  split
  · split
    · exact hb
    · exact he _
  split
  · exact hb
  split
  · split
    · exact Nat.le_add_right _ _
    · exact Nat.le_add_right _ _
  exact Nat.le_add_right _ _
structure RunK (k : Bs) (pre : List (Int × Mo)) : Prop where
  run : ∀ rest, follow (pre.map (fun x => x.2.1) ++ rest) (startF k) = if (stF k pre).known then stF k pre else follow rest (stF k pre)
  len : (stF k pre).key.length ≤ 1000000000 * (pre.length + 1)
theorem RunK.nil {k : Bs} (hk : k.length ≤ 1000000000) : RunK k [] := ⟨fun rest => rfl, by show k.length ≤ 1000000000 * (0 + 1); omega⟩
theorem RunK.step {k : Bs} {pre : List (Int × Mo)} (h : RunK k pre) (hn : (stF k pre).known = false) (x : Int × Mo) : RunK k (pre ++ [x]) := by
  refine ⟨fun rest => ?_, ?_⟩
  · have h1 := h.run (x.2.1 :: rest)
    rw [hn, if_neg (by simp), follow] at h1
    rw [List.map_append, List.append_assoc, stF_snoc]
    exact h1
  · rw [stF_snoc, List.length_append]
    have h1 := look_len x.2.1 (stF k pre)
    have h2 := h.len
    have h3 : x.2.1.src.length ≤ 1000000000 := x.2.2.1.2.2.2.2.1
    simp only [List.length_cons, List.length_nil]
    omega
theorem run_all {k : Bs} {l : List Mo} (h : RunK k (backM l l.length)) (hn : (stF k (backM l l.length)).known = false) : keyF k (l.map (·.1)) = stF k (backM l l.length) := by
  have e : (backM l l.length).map (fun x => x.2.1) = (l.map (·.1)).reverse := by
    have h := backM_take l l.length (Nat.le_refl _)
    rw [List.take_of_length_le (by simp)] at h
    rw [← List.map_reverse, ← h, List.map_map]
    rfl
  have h1 := h.run []
  rw [e, List.append_nil, hn, if_neg (by simp)] at h1
  exact h1
theorem run_part {k : Bs} {l : List Mo} {n : Nat} (hl : n ≤ l.length) (h : RunK k (backM l n)) (hn : (stF k (backM l n)).known = true) : keyF k (l.map (·.1)) = stF k (backM l n) := by
  have e : (backM l n).map (fun x => x.2.1) = ((l.map (·.1)).reverse).take n := by
    have h := backM_take l n hl
    rw [← List.map_reverse, ← List.map_take, ← h, List.map_map]
    rfl
  have h1 := h.run (((l.map (·.1)).reverse).drop n)
  rw [e, List.take_append_drop, hn, if_pos rfl] at h1
  exact h1

/-! ### Eight cells stored -/
@[reducible] def st8F (w : World) (b : Nat) (y0 y1 y2 y3 y4 y5 y6 y7 : Value) : World := (((((((w.setCell ⟨b, 0, none⟩ y0).setCell ⟨b, 1, none⟩ y1).setCell ⟨b, 2, none⟩ y2).setCell ⟨b, 3, none⟩ y3).setCell ⟨b, 4, none⟩ y4).setCell ⟨b, 5, none⟩ y5).setCell ⟨b, 6, none⟩ y6).setCell ⟨b, 7, none⟩ y7
theorem Blk.lo4F {w : World} {b : Nat} {T : TypeId} {x0 x1 x2 x3 x4 x5 x6 x7 : Value} (h : Blk w b T #[x0, x1, x2, x3, x4, x5, x6, x7]) (y0 y1 y2 y3 : Value) : Blk ((((w.setCell ⟨b, 0, none⟩ y0).setCell ⟨b, 1, none⟩ y1).setCell ⟨b, 2, none⟩ y2).setCell ⟨b, 3, none⟩ y3) b T #[y0, y1, y2, y3, x4, x5, x6, x7] :=
  (((h.setCell 0 y0).setCell 1 y1).setCell 2 y2).setCell 3 y3
theorem Blk.hi4F {w : World} {b : Nat} {T : TypeId} {x0 x1 x2 x3 x4 x5 x6 x7 : Value} (h : Blk w b T #[x0, x1, x2, x3, x4, x5, x6, x7]) (y4 y5 y6 y7 : Value) : Blk ((((w.setCell ⟨b, 4, none⟩ y4).setCell ⟨b, 5, none⟩ y5).setCell ⟨b, 6, none⟩ y6).setCell ⟨b, 7, none⟩ y7) b T #[x0, x1, x2, x3, y4, y5, y6, y7] :=
  (((h.setCell 4 y4).setCell 5 y5).setCell 6 y6).setCell 7 y7
theorem Blk.set8F {w : World} {b : Nat} {T : TypeId} {x0 x1 x2 x3 x4 x5 x6 x7 : Value} (h : Blk w b T #[x0, x1, x2, x3, x4, x5, x6, x7]) (y0 y1 y2 y3 y4 y5 y6 y7 : Value) : Blk (st8F w b y0 y1 y2 y3 y4 y5 y6 y7) b T #[y0, y1, y2, y3, y4, y5, y6, y7] :=
  (h.lo4F y0 y1 y2 y3).hi4F y4 y5 y6 y7
theorem Blk.other8F {w : World} {b c : Nat} {T : TypeId} {cs : Array Value} (h : Blk w b T cs) (hne : b ≠ c) (y0 y1 y2 y3 y4 y5 y6 y7 : Value) : Blk (st8F w c y0 y1 y2 y3 y4 y5 y6 y7) b T cs :=
  (((((((h.setCell_other hne 0 y0).setCell_other hne 1 y1).setCell_other hne 2 y2).setCell_other hne 3 y3).setCell_other hne 4 y4).setCell_other hne 5 y5).setCell_other hne 6 y6).setCell_other hne 7 y7
theorem cell_other8F {w : World} {a : Addr} {c : Nat} (hne : c ≠ a.block) (y0 y1 y2 y3 y4 y5 y6 y7 : Value) : (st8F w c y0 y1 y2 y3 y4 y5 y6 y7).cell? a = w.cell? a := by
  rw [World.cell?_setCell_far _ ⟨c, 7, none⟩ a y7 hne, World.cell?_setCell_far _ ⟨c, 6, none⟩ a y6 hne, World.cell?_setCell_far _ ⟨c, 5, none⟩ a y5 hne, World.cell?_setCell_far _ ⟨c, 4, none⟩ a y4 hne, World.cell?_setCell_far _ ⟨c, 3, none⟩ a y3 hne, World.cell?_setCell_far _ ⟨c, 2, none⟩ a y2 hne, World.cell?_setCell_far _ ⟨c, 1, none⟩ a y1 hne, World.cell?_setCell_far _ ⟨c, 0, none⟩ a y0 hne]
theorem below8F {B : Nat} {w wx : World} (h : Below B w wx) (b : Nat) (hb : B ≤ b) (y0 y1 y2 y3 y4 y5 y6 y7 : Value) : Below B w (st8F wx b y0 y1 y2 y3 y4 y5 y6 y7) :=
  (((((((h.setCell hb y0).setCell hb y1).setCell hb y2).setCell hb y3).setCell hb y4).setCell hb y5).setCell hb y6).setCell hb y7
theorem keeps_set {w wx : World} (h : KeepsOthers w wx) (p : Addr) (v : Value) : KeepsOthers w (wx.setCell p v) := h.trans (KeepsOthers.setCell _ _ _)
theorem keeps8F {w wx : World} (h : KeepsOthers w wx) (b : Nat) (y0 y1 y2 y3 y4 y5 y6 y7 : Value) : KeepsOthers w (st8F wx b y0 y1 y2 y3 y4 y5 y6 y7) :=
  keeps_set (keeps_set (keeps_set (keeps_set (keeps_set (keeps_set (keeps_set (keeps_set h _ _) _ _) _ _) _ _) _ _) _ _) _ _) _ _

/-- What the loop keeps. -/
structure KvC (k : Bs) (w : World) (q : Nat) (sv : Value) (pre : List (Int × Mo)) (W : World) : Prop where
  run : RunK k pre
  f : Blk W (w.heap.size + 1) 35 (encF (stF k pre))
  res : Blk W w.heap.size 35 #[.bool false, .bool false, .string ⟨#[]⟩, .string ⟨#[]⟩, .int .i64 0, .string ⟨#[]⟩, .bool false, .int .i64 0]
  mv : W.cell? ⟨w.heap.size + 1 + 1 + 1, 0, none⟩ = some fn1V
  looks : Blk W q 85 #[.nilFunc, .func (.func 84) #[] #[], .func (.func 85) #[] #[], .func (.func 87) #[] #[], .func (.func 89) #[] #[.pointer (some ⟨w.heap.size + 1 + 1 + 1, 0, none⟩)], fn1V, .func (.func 91) #[] #[]]
  bl : Below w.heap.size w W
  bs : Boxed W (q + 1) 25 sv
theorem KvC.own (k : Bs) (w : World) (q : Nat) (sv : Value) (B : Nat) (hB : w.heap.size ≤ B) : OwnFrom B (KvC k w q sv) := by
  intro pre W W' row h hg hr
  have hbl := (ownFrom_below (β := List (Int × Mo)) (n₀ := w.heap.size) (B := B) (w₀ := w) (Nat.le_refl _) hB) pre W W' row h.bl hg hr
  have hb : ∀ {b : Nat} {T : TypeId} {cs : Array Value}, Blk W b T cs → some b ≠ row := fun hb e => by
    obtain ⟨-, o, ho, hc⟩ := hr _ e.symm
    exact blk_notcells hb ho hc
  refine ⟨h.run, blk_kept h.f hg (hb h.f), blk_kept h.res hg (hb h.res), cell_kept h.mv hg (fun r e => (hr r e).2), blk_kept h.looks hg (hb h.looks), hbl, h.bs.kept hg fun e => ?_⟩
  obtain ⟨-, o, ho, hc⟩ := hr _ e.symm
  rw [show W.heap[_]? = _ from h.bs] at ho; cases ho; cases hc

theorem KvC.next {k : Bs} {w : World} {q : Nat} {sv : Value} {pre p2 : List (Int × Mo)} {W w2 : World} (h : KvC k w q sv pre W) (hq : w.heap.size + 1 < q) (hg : Grown W w2) (hr : RunK k p2) (y0 y1 y2 y3 y4 y5 y6 y7 : Value) (hf : encF (stF k p2) = #[y0, y1, y2, y3, y4, y5, y6, y7]) :
    KvC k w q sv p2 (st8F w2 (w.heap.size + 1) y0 y1 y2 y3 y4 y5 y6 y7) ∧ KpB w.heap.size (q + 1) W (st8F w2 (w.heap.size + 1) y0 y1 y2 y3 y4 y5 y6 y7) ∧ KeepsOthers W (st8F w2 (w.heap.size + 1) y0 y1 y2 y3 y4 y5 y6 y7) := by
  have hb : Below W.heap.size W w2 := hg.below (Nat.le_refl _)
  have hbs : Blk (st8F w2 (w.heap.size + 1) y0 y1 y2 y3 y4 y5 y6 y7) (q + 1) 25 #[sv] := (hg.blk (show Blk W (q + 1) 25 #[sv] from h.bs)).other8F (by omega) _ _ _ _ _ _ _ _
  have hbl : Below w.heap.size W (st8F w2 (w.heap.size + 1) y0 y1 y2 y3 y4 y5 y6 y7) := below8F (hb.mono h.bl.size) _ (by omega) _ _ _ _ _ _ _ _
  refine ⟨⟨hr, ?_, (hg.blk h.res).other8F (by omega) _ _ _ _ _ _ _ _, ?_, (hg.blk h.looks).other8F (by omega) _ _ _ _ _ _ _ _, h.bl.trans hbl, hbs⟩, ⟨hbl, (show _ = _ from hbs).trans h.bs.symm⟩, keeps8F (keeps_below hb) _ _ _ _ _ _ _ _ _⟩
  · rw [hf]; exact Blk.set8F (hg.blk h.f) _ _ _ _ _ _ _ _
  · rw [cell_other8F (by show w.heap.size + 1 ≠ w.heap.size + 1 + 1 + 1; omega)]
    exact (hb.cell (p := ⟨w.heap.size + 1 + 1 + 1, 0, none⟩) (cell_lt h.mv)).trans h.mv

set_option maxRecDepth 100000 in
set_option maxHeartbeats 4000000 in
theorem tkey_w (k : Bs) (v : Value) (l : List Mo) (w : World) (hm : IsMsgs w v (l.map (·.1))) (hl : l.length ≤ 50) (hk : k.length ≤ 1000000000) :
    Calls Tryz.prog 17 #[.string (Str k), v] w fun e w' => e = .returned (fdV (keyF k (l.map (·.1)))) ∧ Below w.heap.size w w' := by
  refine (callsIn_wide (n := 3)).1 ?_
  have HKL := Lib.hid (fun wx => keyLooks_w wx)
  obtain ⟨av, capv, rfl, hlc, hcm, -⟩ := id hm
  have hml : (l.map (·.1)).length = l.length := List.length_map ..
  rw [hml] at hlc hm ⊢
  have HM := Lib.hid hm
  clear hm hml
  unfold maxLen at hcm
  refine callsIn_of_wp_marks Tryz.func17 rfl trivial ?_ rfl
  simp only [Tryz.ntmps17, List.size_toArray, List.length_cons, List.length_nil, Nat.reduceAdd, Nat.reduceSub, Array.replicate_succ, Array.replicate_zero, List.push_toArray, List.append_toArray, List.nil_append, List.cons_append]
  gi_wp2_with (first
    | (refine ⟨trivial, ?_⟩; gi_at_call 44; refine (callsIn_wide.2 (HKL.out _)).mono ?_; rintro e w1 ⟨rfl, hc1, hg1⟩)
    | (gi_at_call 44; refine (callsIn_wide.2 (HKL.out _)).mono ?_; rintro e w1 ⟨rfl, hc1, hg1⟩)
    | (refine ⟨trivial, ?_⟩; gi_at_call 45; refine (bwd_in Fence.wide _ trivial rfl _ _ _ _).mono ?_; rintro e w3 ⟨rfl, rfl⟩)
    | (gi_at_call 45; refine (bwd_in Fence.wide _ trivial rfl _ _ _ _).mono ?_; rintro e w3 ⟨rfl, rfl⟩))
  have hmv : w1.cell? ⟨w.heap.size + 1 + 1 + 1, 0, none⟩ = some fn1V := by simpa using hc1
  have hq : w.heap.size + 1 + 1 + 1 < w1.heap.size := cell_lt hmv
  have hf1 : Blk w1 (w.heap.size + 1) 35 (encF (startF k)) := hg1.blk (Blk.new' _ _ _ (by simp))
  have hr1 : Blk w1 w.heap.size 35 #[.bool false, .bool false, .string ⟨#[]⟩, .string ⟨#[]⟩, .int .i64 0, .string ⟨#[]⟩, .bool false, .int .i64 0] := hg1.blk ((Blk.new _ _ _).alloc _)
  have hb1 : Below w.heap.size w w1 := (((Grown.refl w).alloc _).alloc _ |>.trans hg1).below (Nat.le_refl _)
  obtain ⟨W0, hW0⟩ : ∃ W0, W0 = (w1.alloc (.cells #[.nilFunc, .func (.func 84) #[] #[], .func (.func 85) #[] #[], .func (.func 87) #[] #[], .func (.func 89) #[] #[.pointer (some ⟨w.heap.size + 1 + 1 + 1, 0, none⟩)], fn1V, .func (.func 91) #[] #[]] 85)).alloc (.cells #[.slice av l.length capv] 25) := ⟨_, rfl⟩
  have hsz0 : W0.heap.size = w1.heap.size + 2 := by rw [hW0]; simp
  have hf0 : Blk W0 (w.heap.size + 1) 35 (encF (startF k)) := by rw [hW0]; exact (hf1.alloc _).alloc _
  have hr0 : Blk W0 w.heap.size 35 #[.bool false, .bool false, .string ⟨#[]⟩, .string ⟨#[]⟩, .int .i64 0, .string ⟨#[]⟩, .bool false, .int .i64 0] := by rw [hW0]; exact (hr1.alloc _).alloc _
  have hlk0 : Blk W0 w1.heap.size 85 #[.nilFunc, .func (.func 84) #[] #[], .func (.func 85) #[] #[], .func (.func 87) #[] #[], .func (.func 89) #[] #[.pointer (some ⟨w.heap.size + 1 + 1 + 1, 0, none⟩)], fn1V, .func (.func 91) #[] #[]] := by rw [hW0]; exact (Blk.new _ _ _).alloc _
  have hmv0 : W0.cell? ⟨w.heap.size + 1 + 1 + 1, 0, none⟩ = some fn1V := by
    rw [hW0]
    exact ((((Grown.refl w1).alloc _).alloc _).below (Nat.le_refl _) |>.cell (p := ⟨w.heap.size + 1 + 1 + 1, 0, none⟩) hq).trans hmv
  have hbx0 : Boxed W0 (w1.heap.size + 1) 25 (.slice av l.length capv) := by rw [hW0]; have := Boxed.new (w1.alloc (.cells #[.nilFunc, .func (.func 84) #[] #[], .func (.func 85) #[] #[], .func (.func 87) #[] #[], .func (.func 89) #[] #[.pointer (some ⟨w.heap.size + 1 + 1 + 1, 0, none⟩)], fn1V, .func (.func 91) #[] #[]] 85)) 25 (.slice av l.length capv); simpa using this
  have hbW : Below w.heap.size w W0 := by rw [hW0]; exact (hb1.alloc hb1.size _).alloc (by have := hb1.size; simp; omega) _
  have hwsz := hb1.size
  rw [← hW0]
  clear hW0 hc1 hg1 hf1 hr1 hmv hb1
  have hbs : w.heap.size ≤ W0.heap.size := hbW.size
  refine wpIn_rangeFunc_ownH (α := Int × Mo) rfl (by omega) (gf := 92) (lb := #[.pointer (some ⟨w1.heap.size + 1, 0, none⟩)]) rfl trivial (enters_of Tryz.func92 (by kernel_rfl) rfl)
    (back_stops Fence.wide (3 - 1) trivial rfl (by omega) (w1.heap.size + 1) w.heap.size (.slice av l.length capv) l (by omega) w W0 (by omega) hbs hbx0.cell HM.out (Nat.le_refl _) hbW)
    (fun h k => h.trans k) (KpB.put hbs (by omega)) (Below.refl _ _) (fun _ => rfl)
    (fun pre W => KvC k w w1.heap.size (.slice av l.length capv) pre W ∧ (stF k pre).known = false) (fun c pre W => KvC k w w1.heap.size (.slice av l.length capv) pre W ∧ c = .exit 0 ∧ (stF k pre).known = true)
    (fun s A B row h hg hr => ⟨KvC.own k w w1.heap.size (.slice av l.length capv) W0.heap.size hbs s A B row h.1 hg hr, h.2⟩)
    (fun c s A B row h hg hr => ⟨KvC.own k w w1.heap.size (.slice av l.length capv) W0.heap.size hbs s A B row h.1 hg hr, h.2⟩)
    ⟨⟨RunK.nil hk, hf0, hr0, hmv0, hlk0, hbW, hbx0⟩, rfl⟩
    (fun x a' W => ∃ Bx, w.heap.size + 1 < Bx ∧ Blk W Bx 63 (encM x.2.1) ∧ a' = { tmps := #[.string (Str k), .slice av l.length capv, undef, undef, .pointer (some ⟨w.heap.size, 0, none⟩), .pointer (some ⟨w.heap.size + 1, 0, none⟩), .pointer (some ⟨w1.heap.size, 0, none⟩), undef, .pointer (some ⟨Bx, 0, none⟩), .string (Str k),
      .agg #[.string (Str k), .string ⟨#[]⟩, .int .i64 0], .string (Str k), .agg #[.bool false, .bool false, .string (Str k), .string ⟨#[]⟩, .int .i64 0, .string (Str k), .bool false, .int .i64 0], looksV (w.heap.size + 1 + 1 + 1), .slice av l.length capv,
      .func (.func 92) #[] #[.pointer (some ⟨w1.heap.size + 1, 0, none⟩)], .int .i64 x.1, msgV x.2.1, undef, undef, undef, undef, undef, undef, undef], defers := [] }) ?_ ?assign ?body ?done ?stop
  · rintro x a' _ W W' row ⟨Bx, h1, h2, rfl⟩ hg hr
    refine ⟨Bx, h1, ?_, rfl⟩
    exact blk_kept h2 hg fun e => by
      obtain ⟨-, o, ho, hc⟩ := hr _ e.symm
      exact blk_notcells h2 ho hc
  case assign =>
    rintro lp pre x W K ⟨hi, hkn⟩ hK
    have hbl := hi.bl.size
    have hsz := hi.bs.lt
    gi_wp2
    refine hK _ _ ((KeepsOthers.alloc _ _).from _) ⟨(Below.refl _ W).alloc hbl _, (World.grownBy_alloc W _ none).block _ hsz (by simp)⟩ ⟨(KvC.own _ _ _ _ _ hbs).alloc _ hi, hkn⟩ ⟨W.heap.size, hi.f.lt, Blk.new _ _ _, rfl⟩
  case body =>
    rintro lp pre ⟨xi, m, hszm, hvm⟩ a' W hlp ⟨r, hr⟩ ⟨hi, hkn⟩ ⟨Bx, hBx, bX, rfl⟩ hlt
    change Blk W Bx 63 (encM m) at bX
    have hst := hi.run.step hkn (xi, ⟨m, hszm, hvm⟩)
    have hsn := stF_snoc k pre (xi, ⟨m, hszm, hvm⟩)
    obtain ⟨p2, hp2⟩ : ∃ p2, p2 = pre ++ [(xi, (⟨m, hszm, hvm⟩ : Mo))] := ⟨_, rfl⟩
    rw [← hp2] at hst hsn ⊢
    clear hp2
    have hlen := hi.run.len
    have hpl : 1000000000 * (pre.length + 1) ≤ 1000000000 * 50 := by omega
    have HB := Lib.hid (fbefore_w (w.heap.size + 1 + 1 + 1) m (stF k pre) W hi.mv (by omega) (by have := hszm.2.2.2.2.1; omega) hvm)
    have hI := Lib.hid hi
    have bF := hi.f
    have bL := hi.looks
    dsimp only at hsn
    obtain ⟨g, hg⟩ : ∃ g, g = lookK m (stF k pre) := ⟨_, rfl⟩
    rw [← hg] at HB hsn
    clear hg hi hlen hpl
    generalize stF k pre = f at *
    obtain ⟨f1, f2, ⟨f3, f4, f5⟩, f6, f7, f8⟩ := f
    obtain ⟨g1, g2, ⟨g3, g4, g5⟩, g6, g7, g8⟩ := g
    dsimp only at hkn bF
    subst hkn
    have HSN := Lib.hid hsn
    have HST := Lib.hid hst
    clear hsn hst
    obtain ⟨n0, n1, n2, n3, n4, n5, n6, n7⟩ := bX.eightC
    obtain ⟨a0, a1, a2, a3, a4, a5, a6, a7⟩ := bF.eightC
    have q0 := bL.c0 0 _ rfl
    have q1 := bL.c0 1 _ rfl
    have q2 := bL.c0 2 _ rfl
    have q3 := bL.c0 3 _ rfl
    have q4 := bL.c0 4 _ rfl
    have q5 := bL.c0 5 _ rfl
    have q6 := bL.c0 6 _ rfl
    cases g1
    · gi_wp2_with (refine ⟨trivial, ?_⟩; gi_at_call 46; go_must (refine (CallsIn.inRound lp (callsIn_wide.2 HB.out)).mono ?_; rintro e w2 ⟨rfl, hg2⟩; have HG2 := Lib.hid hg2; obtain ⟨c0, c1, c2, c3, c4, c5, c6, c7⟩ := (hg2.blk bF).eightC; obtain ⟨e0, e1, e2, e3, e4, e5, e6, e7⟩ := (hg2.blk bF).eightF; clear hg2 n0 n1 n2 n3 n4 n5 n6 n7 a0 a1 a2 a3 a4 a5 a6 a7 q0 q1 q2 q3 q4 q5 q6))
      obtain ⟨z1, z2, z3⟩ := hI.out.next (by omega) HG2.out HST.out _ _ _ _ _ _ _ _ (by rw [HSN.out])
      exact ⟨z3.from _, z2, z1, by rw [HSN.out]⟩
    · gi_wp2_with (refine ⟨trivial, ?_⟩; gi_at_call 46; go_must (refine (CallsIn.inRound lp (callsIn_wide.2 HB.out)).mono ?_; rintro e w2 ⟨rfl, hg2⟩; have HG2 := Lib.hid hg2; obtain ⟨c0, c1, c2, c3, c4, c5, c6, c7⟩ := (hg2.blk bF).eightC; obtain ⟨e0, e1, e2, e3, e4, e5, e6, e7⟩ := (hg2.blk bF).eightF; clear hg2 n0 n1 n2 n3 n4 n5 n6 n7 a0 a1 a2 a3 a4 a5 a6 a7 q0 q1 q2 q3 q4 q5 q6))
      obtain ⟨z1, z2, z3⟩ := hI.out.next (by omega) HG2.out HST.out _ _ _ _ _ _ _ _ (by rw [HSN.out])
      exact ⟨z3.from _, z1, rfl, by rw [HSN.out]⟩
  case done =>
    rintro Dd ys W hDl rfl ⟨hi, hkn⟩ hDk
    have hfin := run_all hi.run hkn
    clear hkn
    have bF := hi.f
    have bR := hi.res
    have hI := Lib.hid hi
    have HF := Lib.hid hfin
    clear hfin hi
    generalize stF k (backM l l.length) = f at *
    obtain ⟨f1, f2, ⟨f3, f4, f5⟩, f6, f7, f8⟩ := f
    obtain ⟨a0, a1, a2, a3, a4, a5, a6, a7⟩ := bF.eightC
    obtain ⟨c0, c1, c2, c3, c4, c5, c6, c7⟩ := bR.eightC
    obtain ⟨e0, e1, e2, e3, e4, e5, e6, e7⟩ := bR.eightF
    dsimp only at a0 a1 a2 a3 a4 a5 a6 a7
    gi_wp2
    have hB := Lib.hid (below8F hI.out.bl w.heap.size (Nat.le_refl _) (.bool f1) (.bool f2) (.string (Str f3)) (.string (Str f4)) (.int .i64 f5) (.string (Str f6)) (.bool f7) (.int .i64 f8))
    have hR := Lib.hid (bR.set8F (.bool f1) (.bool f2) (.string (Str f3)) (.string (Str f4)) (.int .i64 f5) (.string (Str f6)) (.bool f7) (.int .i64 f8))
    have hDk9 := (keeps8F (KeepsOthers.refl W) w.heap.size (.bool f1) (.bool f2) (.string (Str f3)) (.string (Str f4)) (.int .i64 f5) (.string (Str f6)) (.bool f7) (.int .i64 f8)).same Dd _ hDk rfl
    clear a0 a1 a2 a3 a4 a5 a6 a7 c0 c1 c2 c3 c4 c5 c6 c7 e0 e1 e2 e3 e4 e5 e6 e7
    change bodyPostM Fence.wide 3 Tryz.prog Tryz.f17 _ Exit.ret _ (st8F W w.heap.size (.bool f1) (.bool f2) (.string (Str f3)) (.string (Str f4)) (.int .i64 f5) (.string (Str f6)) (.bool f7) (.int .i64 f8))
    generalize st8F W w.heap.size (.bool f1) (.bool f2) (.string (Str f3)) (.string (Str f4)) (.int .i64 f5) (.string (Str f6)) (.bool f7) (.int .i64 f8) = W9 at *
    have hne : w.heap.size ≠ Dd := fun e => by rw [← e] at hDk9; exact blk_notcells hR.out hDk9 rfl
    obtain ⟨c0, c1, c2, c3, c4, c5, c6, c7⟩ := (blk_kept hR.out (grownBy_putObj' W9 Dd (.deferred none)) (fun e => hne (Option.some.inj e))).eightC
    refine ⟨by simp, .inl ⟨_, _, rfl, run_takeDeferred hDk9, ?_⟩⟩
    refine ⟨fdV ⟨f1, f2, (f3, f4, f5), f6, f7, f8⟩, ?_, by rw [HF.out], ?_⟩
    · simp [results, Tryz.results17, go_sem, c0, c1, c2, c3, c4, c5, c6, c7]
    · exact hB.out.trans (belowK_b (w := w) (Nat.le_refl _) W9 Dd _ _ (Nat.le_trans hbs hDl) hDk9 rfl rfl)
  case stop =>
    rintro Dd c pre W hDl ⟨n, hn, rfl⟩ ⟨hi, rfl, hkn⟩ hDk
    have hfin := run_part hn hi.run hkn
    clear hkn
    have bF := hi.f
    have bR := hi.res
    have hI := Lib.hid hi
    have HF := Lib.hid hfin
    clear hfin hi
    generalize stF k (backM l n) = f at *
    obtain ⟨f1, f2, ⟨f3, f4, f5⟩, f6, f7, f8⟩ := f
    obtain ⟨a0, a1, a2, a3, a4, a5, a6, a7⟩ := bF.eightC
    obtain ⟨c0, c1, c2, c3, c4, c5, c6, c7⟩ := bR.eightC
    obtain ⟨e0, e1, e2, e3, e4, e5, e6, e7⟩ := bR.eightF
    dsimp only at a0 a1 a2 a3 a4 a5 a6 a7
    gi_wp2
    have hB := Lib.hid (below8F hI.out.bl w.heap.size (Nat.le_refl _) (.bool f1) (.bool f2) (.string (Str f3)) (.string (Str f4)) (.int .i64 f5) (.string (Str f6)) (.bool f7) (.int .i64 f8))
    have hR := Lib.hid (bR.set8F (.bool f1) (.bool f2) (.string (Str f3)) (.string (Str f4)) (.int .i64 f5) (.string (Str f6)) (.bool f7) (.int .i64 f8))
    have hDk9 := (keeps8F (KeepsOthers.refl W) w.heap.size (.bool f1) (.bool f2) (.string (Str f3)) (.string (Str f4)) (.int .i64 f5) (.string (Str f6)) (.bool f7) (.int .i64 f8)).same Dd _ hDk rfl
    clear a0 a1 a2 a3 a4 a5 a6 a7 c0 c1 c2 c3 c4 c5 c6 c7 e0 e1 e2 e3 e4 e5 e6 e7
    change bodyPostM Fence.wide 3 Tryz.prog Tryz.f17 _ Exit.ret _ (st8F W w.heap.size (.bool f1) (.bool f2) (.string (Str f3)) (.string (Str f4)) (.int .i64 f5) (.string (Str f6)) (.bool f7) (.int .i64 f8))
    generalize st8F W w.heap.size (.bool f1) (.bool f2) (.string (Str f3)) (.string (Str f4)) (.int .i64 f5) (.string (Str f6)) (.bool f7) (.int .i64 f8) = W9 at *
    have hne : w.heap.size ≠ Dd := fun e => by rw [← e] at hDk9; exact blk_notcells hR.out hDk9 rfl
    obtain ⟨c0, c1, c2, c3, c4, c5, c6, c7⟩ := (blk_kept hR.out (grownBy_putObj' W9 Dd (.deferred none)) (fun e => hne (Option.some.inj e))).eightC
    refine ⟨by simp, .inl ⟨_, _, rfl, run_takeDeferred hDk9, ?_⟩⟩
    refine ⟨fdV ⟨f1, f2, (f3, f4, f5), f6, f7, f8⟩, ?_, by rw [HF.out], ?_⟩
    · simp [results, Tryz.results17, go_sem, c0, c1, c2, c3, c4, c5, c6, c7]
    · exact hB.out.trans (belowK_b (w := w) (Nat.le_refl _) W9 Dd _ _ (Nat.le_trans hbs hDl) hDk9 rfl rfl)

end Go.Proofs.YthncnijkgkeohaaGreat
