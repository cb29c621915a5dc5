/-
  Walks: One, Moved and Prefix of package span. Walks: lists of pairs as slices, as rows of the call's own; appending to them. Walks: places, borders, clones and joined lists of package table. Walks: clones and joined lists of pairs. Walks: joined lists of pairs. Walks: Range, Drop, Del, Put of package table. Walks: Find and Union of package table. Walks: Moved and Valid of package table.
-/
import Derived.Test.YtmbfghbhajmpiaaGreatZW1
import Derived.Test.YtmbfghbhajmpiaaGreatPL
import Derived.OwnWalk
import Derived.Laws.AppendOwnNone
import Derived.Laws.OwnMore
import Derived.Test.YtmbfghbhajmpiaaGreatSh3
import Derived.Deep.LoopGhost
import Derived.StillTailTactics
import Derived.WalkMore
namespace Go.Proofs.YtmbfghbhajmpiaaGreat
open Go.RowKit Go.Sort
set_option linter.unusedVariables false

set_option maxHeartbeats 1000000 in
theorem one_w (k : Bs) (w : World) (hk : k.length ≤ 140737488355328) : Calls Tryz.prog 300 #[.string (Str k)] w fun e w' => e = .returned (.agg #[.string (Str k), .string (Str (k ++ [0]))]) ∧ Grown w w' := by
  go_enter Tryz.func300, Tryz.ntmps300
  go_wp2
  refine bodyPost_ret (v := .agg #[.string (Str k), .string (Str (k ++ [0]))]) (by simp [results, Tryz.results300, go_sem]; exact Str_add k [0]) rfl ⟨rfl, ?_⟩
  repeat (first | exact Grown.refl _ | refine Grown.setCell ?_ _ _ _ (by simp) | refine Grown.alloc ?_ _)

theorem cut_yes (k a : Bs) (w : World) (h : a.isPrefixOf k = true) : Calls Tryz.prog 336 #[.string (Str k), .string (Str a)] w fun e w' => e = .returned (.tuple #[.string (Str (k.drop a.length)), .bool true]) ∧ w = w' := by
  refine (Tryz.strings_CutPrefix (Str k) (Str a) w).mono fun e w' ⟨he, hw⟩ => ⟨?_, hw.symm⟩
  rw [he]
  show Ending.returned (.tuple #[.string ⟨(Lib.trimPrefix k a).toArray⟩, .bool (Lib.hasPrefix k a)]) = _
  unfold Lib.trimPrefix Lib.hasPrefix
  rw [h]; rfl
theorem cut_no (k a : Bs) (w : World) (h : a.isPrefixOf k = false) : Calls Tryz.prog 336 #[.string (Str k), .string (Str a)] w fun e w' => e = .returned (.tuple #[.string (Str k), .bool false]) ∧ w = w' := by
  refine (Tryz.strings_CutPrefix (Str k) (Str a) w).mono fun e w' ⟨he, hw⟩ => ⟨?_, hw.symm⟩
  rw [he]
  show Ending.returned (.tuple #[.string ⟨(Lib.trimPrefix k a).toArray⟩, .bool (Lib.hasPrefix k a)]) = _
  unfold Lib.trimPrefix Lib.hasPrefix
  rw [h]; rfl

/-- What Moved hands back. -/
def movedV (k a b : Bs) : Value := match movedS k a b with
  | some m => .tuple #[.string (Str m), .bool true]
  | none => .tuple #[.string (Str []), .bool false]
theorem movedV_yes {k a b : Bs} (h : a.isPrefixOf k = true) : movedV k a b = .tuple #[.string (Str (b ++ k.drop a.length)), .bool true] := by unfold movedV movedS; rw [if_pos h]
theorem movedV_no {k a b : Bs} (h : a.isPrefixOf k = false) : movedV k a b = .tuple #[.string (Str []), .bool false] := by unfold movedV movedS; rw [if_neg (by rw [h]; simp)]
set_option maxHeartbeats 1000000 in
theorem moved_w (k a b : Bs) (w : World) (hk : k.length ≤ 140737488355328) (hb : b.length ≤ 140737488355328) :
    Calls Tryz.prog 335 #[.string (Str k), .string (Str a), .string (Str b)] w fun e w' => e = .returned (movedV k a b) ∧ Grown w w' := by
  cases h : a.isPrefixOf k with
  | true =>
    have hc := fun wx => cut_yes k a wx h
    have hl : (k.drop a.length).length ≤ 140737488355328 := by rw [List.length_drop]; omega
    rw [movedV_yes h]
    clear h hk
    generalize k.drop a.length = r at *
    go_enter Tryz.func335, Tryz.ntmps335
    go_wp2_with (go_at_call 336; refine (hc _).mono ?_; rintro e w' ⟨rfl, rfl⟩)
    go_ret2
    refine ⟨?_, Grown.refl _⟩
    show Ending.returned (.tuple #[.string (Str b ++ Str r), .bool true]) = _
    rw [Str_add]
  | false =>
    have hc := fun wx => cut_no k a wx h
    rw [movedV_no h]
    clear h
    go_enter Tryz.func335, Tryz.ntmps335
    go_wp2_with (go_at_call 336; refine (hc _).mono ?_; rintro e w' ⟨rfl, rfl⟩)
    go_ret2
    exact ⟨rfl, Grown.refl _⟩

theorem conv_u8s {n c : Nat} (W : World) (T : TypeId) (xs : List Int) (h : n = W.heap.size) :
    (convert 23 9 (.slice (some ⟨n, 0, none⟩) xs.length c)).run Tryz.prog (W.alloc (.cells (xs.map (Value.int .u8)).toArray T)) =
      .ok (.string (Str (xs.map fun x => UInt8.ofNat x.toNat))) (W.alloc (.cells (xs.map (Value.int .u8)).toArray T)) := by
  subst h
  rw [run_convert_bytes_arg (P := Tryz.prog) _ 23 5 Tryz.underlying23 Tryz.underlying5 W.heap.size 0 xs.length c xs rfl (fun i hi => by
    rw [Nat.zero_add, World.cell?_alloc_new]; simp [hi]) 9 Tryz.underlying9]
  rfl
theorem conv1 {n c : Nat} (W : World) (T : TypeId) (a : Int) (h : n = W.heap.size) :
    (convert 23 9 (.slice (some ⟨n, 0, none⟩) 1 c)).run Tryz.prog (W.alloc (.cells #[.int .u8 a] T)) =
      .ok (.string (Str [UInt8.ofNat a.toNat])) (W.alloc (.cells #[.int .u8 a] T)) := conv_u8s W T [a] h
theorem conv1d {n c : Nat} (W : World) (T : TypeId) (a : Int) (h : n = W.heap.size) :
    (convert 23 9 (.slice (some ⟨n, 0, none⟩) 1 c)).run Tryz.prog ((W.alloc (.cells #[.int .u8 a] T)).drew) =
      .ok (.string (Str [UInt8.ofNat a.toNat])) ((W.alloc (.cells #[.int .u8 a] T)).drew) := conv1 W.drew T a h
attribute [go_sem] conv1 conv1d

theorem drop_full (p : Bs) (i : Nat) (hi : i < p.length) (h : p.drop (i + 1) = List.replicate (p.length - (i + 1)) 255) (hc : p[i] = 255) : p.drop i = List.replicate (p.length - i) 255 := by
  rw [List.drop_eq_getElem_cons hi, h, hc, ← List.replicate_succ]; congr 1; omega
theorem preT_at (p : Bs) (i : Nat) (hi : i < p.length) (h : p.drop (i + 1) = List.replicate (p.length - (i + 1)) 255) (hc : ¬ p[i] = 255) : preT p = p.take i ++ [p[i] + 1] := by
  have : p = p.take i ++ p[i] :: List.replicate (p.length - (i + 1)) 255 := by
    rw [← h, ← List.drop_eq_getElem_cons hi, List.take_append_drop]
  unfold preT
  have h2 := preH_app (p.take i) p[i] (p.length - (i + 1)) hc
  rw [← this] at h2
  rw [h2]; rfl
theorem preT_full (p : Bs) (h : p.drop 0 = List.replicate (p.length - 0) 255) : preT p = [] := by
  unfold preT
  rw [List.drop_zero] at h
  rw [h, preH_full]; rfl
theorem u8_inc (c : UInt8) (h : ¬ c = 255) : UInt8.ofNat (((c.toNat : Int) + 1).toNat) = c + 1 := by
  have h0 : c.toNat ≠ 255 := fun h' => h (UInt8.toNat_inj.1 (by rw [h']; rfl))
  have h1 := c.toNat_lt
  apply UInt8.toNat_inj.1
  rw [UInt8.toNat_ofNat', UInt8.toNat_add]
  have : ((c.toNat : Int) + 1).toNat = c.toNat + 1 := by omega
  rw [this]; rfl

set_option maxRecDepth 100000 in
set_option maxHeartbeats 2000000 in
theorem prefix_w (p : Bs) (w : World) (hp : p.length ≤ 140737488355328) : Calls Tryz.prog 328 #[.string (Str p)] w fun e w' => e = .returned (.agg #[.string (Str p), .string (Str (preT p))]) ∧ Grown w w' := by
  have hsz := size_Str p
  go_enter Tryz.func328, Tryz.ntmps328
  go_wp2
  go_loop [3] (fun i => ∃ k : Nat, k ≤ p.length ∧ i = .int .i64 ((k : Int) - 1) ∧ Hid (p.drop k = List.replicate (p.length - k) 255)) (fun i => (intOf i + 1).toNat)
  case atStart => exact ⟨p.length, Nat.le_refl _, by first | rfl | go_num, Lib.hid (by simp)⟩
  case round =>
    obtain ⟨k, hk, rfl, HD⟩ := hrel
    by_cases hk0 : k = 0
    · subst hk0
      have H := Lib.hid (preT_full p HD.out)
      go_wp2
      refine bodyPost_ret (v := .agg #[.string (Str p), .string (Str [])]) (by simp [results, Tryz.results328, go_sem]; try rfl) rfl ⟨by rw [H.out], ?_⟩
      repeat (first | exact Grown.refl _ | refine Grown.setCell ?_ _ _ _ (by simp) | refine Grown.alloc ?_ _)
    · obtain ⟨j, rfl⟩ : ∃ j, k = j + 1 := ⟨k - 1, by omega⟩
      have hj : j < p.length := by omega
      by_cases hc : p[j] = 255
      · have HD' := Lib.hid (drop_full p j hj HD.out hc)
        have hcn : (p[j].toNat : Int) = 255 := by rw [hc]; rfl
        have hcb : ((p[j].toNat : Int) == 255) = true := by rw [hcn]; rfl
        clear hc hcn
        go_wp2
        go_round
        case rel => exact ⟨j, by omega, by go_num, HD'⟩
        case measure => simp [intOf]
      · have H := Lib.hid (preT_at p j hj HD.out hc)
        have hcn : (p[j].toNat : Int) < 255 := by
          have h0 : p[j].toNat ≠ 255 := fun h' => hc (UInt8.toNat_inj.1 (by rw [h']; rfl))
          have h1 := p[j].toNat_lt
          omega
        have hcb : ((p[j].toNat : Int) == 255) = false := by simp; omega
        have Hi := Lib.hid (u8_inc p[j] hc)
        have hwr : IntKind.u8.wrap ((p[j].toNat : Int) + 1) = (p[j].toNat : Int) + 1 := by simp [IntKind.wrap, IntKind.bits, IntKind.signed]; omega
        clear hc
        go_wp2
        go_region
        all_goals go_wp2
        all_goals
          refine bodyPost_ret (v := .agg #[.string (Str p), .string (Str (p.take j ++ [p[j] + 1]))]) (by simp [results, Tryz.results328, go_sem, Str_add]) rfl ⟨by rw [H.out], ?_⟩
          repeat (first | exact Grown.refl _ | refine Grown.setCell ?_ _ _ _ (by simp) | refine Grown.alloc ?_ _ | refine Grown.draw ?_)

end Go.Proofs.YtmbfghbhajmpiaaGreat
namespace Go.Proofs.YtmbfghbhajmpiaaGreat
open Go.RowKit Go.Sort
set_option linter.unusedVariables false

theorem cell_lt {w : World} {b o : Nat} {v : Value} (h : w.cell? ⟨b, o, none⟩ = some v) : b < w.heap.size := by
  unfold World.cell? at h
  simp only at h
  cases hb : w.heap[b]? with
  | none => rw [hb] at h; cases h
  | some x => rw [Array.getElem?_eq_some_iff] at hb; exact hb.1
theorem Grown.keep2 {W W' : World} {b : Nat} {u v : Value} (hg : Grown W W') (h0 : W.cell? ⟨b, 0, none⟩ = some u) (h1 : W.cell? ⟨b, 1, none⟩ = some v) : W'.cell? ⟨b, 0, none⟩ = some u ∧ W'.cell? ⟨b, 1, none⟩ = some v :=
  have hb := hg.below (B := W.heap.size) (Nat.le_refl _)
  ⟨(hb.cell (p := ⟨b, 0, none⟩) (by exact cell_lt h0)).trans h0, (hb.cell (p := ⟨b, 1, none⟩) (by exact cell_lt h1)).trans h1⟩
theorem Grown.keepS {W W' : World} {b : Nat} {u v : Value} (hg : Grown W W') (h : W.cell? ⟨b, 0, none⟩ = some u ∧ W.cell? ⟨b, 1, none⟩ = some v) : W'.cell? ⟨b, 0, none⟩ = some u ∧ W'.cell? ⟨b, 1, none⟩ = some v := Grown.keep2 hg h.1 h.2
theorem Grown.blk {W W' : World} {b : Nat} {T : TypeId} {cs : Array Value} (hg : Grown W W') (h : Blk W b T cs) : Blk W' b T cs := Blk.below h (hg.below (B := W.heap.size) (Nat.le_refl _)) h.lt
/-- What a block of four cells offers to a store. -/
theorem Blk.four {w : World} {b : Nat} {T : TypeId} {x0 x1 x2 x3 : Value} (h : Blk w b T #[x0, x1, x2, x3]) :
    w.cell? ⟨b, 0, none⟩ = some x0 ∧ w.cell? ⟨b, 1, none⟩ = some x1 ∧ w.cell? ⟨b, 2, none⟩ = some x2 ∧ w.cell? ⟨b, 3, none⟩ = some x3 ∧
    w.frozen? ⟨b, 0, none⟩ = false ∧ w.frozen? ⟨b, 1, none⟩ = false ∧ w.frozen? ⟨b, 2, none⟩ = false ∧ w.frozen? ⟨b, 3, none⟩ = false :=
  ⟨h.c0 0 _ rfl, h.c0 1 _ rfl, h.c0 2 _ rfl, h.c0 3 _ rfl, h.free 0, h.free 1, h.free 2, h.free 3⟩
@[reducible] def st4 (w : World) (b : Nat) (y0 y1 y2 y3 : Value) : World := (((w.setCell ⟨b, 0, none⟩ y0).setCell ⟨b, 1, none⟩ y1).setCell ⟨b, 2, none⟩ y2).setCell ⟨b, 3, none⟩ y3
theorem Blk.set4 {w : World} {b : Nat} {T : TypeId} {x0 x1 x2 x3 : Value} (h : Blk w b T #[x0, x1, x2, x3]) (y0 y1 y2 y3 : Value) : Blk (st4 w b y0 y1 y2 y3) b T #[y0, y1, y2, y3] :=
  (((h.setCell 0 y0).setCell 1 y1).setCell 2 y2).setCell 3 y3
theorem Blk.other4 {w : World} {b c : Nat} {T : TypeId} {cs : Array Value} (h : Blk w b T cs) (hne : b ≠ c) (y0 y1 y2 y3 : Value) : Blk (st4 w c y0 y1 y2 y3) b T cs :=
  (((h.setCell_other hne 0 y0).setCell_other hne 1 y1).setCell_other hne 2 y2).setCell_other hne 3 y3
theorem below4 {B : Nat} {w wx : World} (h : Below B w wx) (b : Nat) (hb : B ≤ b) (y0 y1 y2 y3 : Value) : Below B w (st4 wx b y0 y1 y2 y3) :=
  (((h.setCell hb y0).setCell hb y1).setCell hb y2).setCell hb y3
/-- A slice of strings. -/
def IsStrs (w : World) (v : Value) (l : List Bs) : Prop :=
  ∃ a cap, v = .slice a l.length cap ∧ l.length ≤ cap ∧ cap ≤ maxLen ∧ (l ≠ [] → ∃ b off, a = some ⟨b, off, none⟩ ∧ b < w.heap.size ∧
    ∀ i (h : i < l.length), w.cell? ⟨b, off + i, none⟩ = some (.string (Str l[i])))
theorem IsStrs.below {w w' : World} {v : Value} {l : List Bs} (h : IsStrs w v l) (hb : Below w.heap.size w w') : IsStrs w' v l := by
  obtain ⟨a, cap, h1, h2, h3, h4⟩ := h
  refine ⟨a, cap, h1, h2, h3, fun hl => ?_⟩
  obtain ⟨b, off, e, hlt, hc⟩ := h4 hl
  exact ⟨b, off, e, Nat.lt_of_lt_of_le hlt hb.size, fun i hi => by rw [hb.cell (by exact hlt)]; exact hc i hi⟩
theorem IsStrs.form {w : World} {v : Value} {l : List Bs} (h : IsStrs w v l) : ∃ b off cap a, v = .slice a l.length cap ∧ l.length ≤ cap ∧ cap ≤ maxLen ∧ (l ≠ [] → a = some ⟨b, off, none⟩ ∧ b < w.heap.size) ∧
    ∀ i (h : i < l.length), a = some ⟨b, off, none⟩ ∧ w.cell? ⟨b, off + i, none⟩ = some (.string (Str l[i])) := by
  obtain ⟨a, cap, h1, h2, h3, h4⟩ := h
  by_cases hl : l = []
  · subst hl; exact ⟨0, 0, cap, a, h1, h2, h3, fun h => absurd rfl h, fun i hi => absurd hi (by simp)⟩
  · obtain ⟨b, off, e, hlt, hc⟩ := h4 hl
    exact ⟨b, off, cap, a, h1, h2, h3, fun _ => ⟨e, hlt⟩, fun i hi => ⟨e, hc i hi⟩⟩

/-- A slice of pairs. -/
def IsPairs (w : World) (v : Value) (l : List Pr) : Prop :=
  ∃ a cap, v = .slice a l.length cap ∧ l.length ≤ cap ∧ cap ≤ maxLen ∧ (∀ x ∈ l, x.1.length ≤ maxLen ∧ x.2.1.length ≤ maxLen) ∧ (l ≠ [] → ∃ b off, a = some ⟨b, off, none⟩ ∧ b < w.heap.size ∧
    ∀ i (h : i < l.length), w.cell? ⟨b, off + i * 3, none⟩ = some (.string (Str l[i].1)) ∧ w.cell? ⟨b, off + i * 3 + 1, none⟩ = some (.string (Str l[i].2.1)) ∧ w.cell? ⟨b, off + i * 3 + 2, none⟩ = some (.int .i64 l[i].2.2))
theorem IsPairs.below {w w' : World} {v : Value} {l : List Pr} (h : IsPairs w v l) (hb : Below w.heap.size w w') : IsPairs w' v l := by
  obtain ⟨a, cap, h1, h2, h3, h5, h4⟩ := h
  refine ⟨a, cap, h1, h2, h3, h5, fun hl => ?_⟩
  obtain ⟨b, off, e, hlt, hc⟩ := h4 hl
  exact ⟨b, off, e, Nat.lt_of_lt_of_le hlt hb.size, fun i hi => ⟨by rw [hb.cell (by exact hlt)]; exact (hc i hi).1, by rw [hb.cell (by exact hlt)]; exact (hc i hi).2.1, by rw [hb.cell (by exact hlt)]; exact (hc i hi).2.2⟩⟩
theorem IsPairs.form {w : World} {v : Value} {l : List Pr} (h : IsPairs w v l) : ∃ b off cap a, v = .slice a l.length cap ∧ l.length ≤ cap ∧ cap ≤ maxLen ∧ (l ≠ [] → a = some ⟨b, off, none⟩ ∧ b < w.heap.size) ∧
    ∀ i (h : i < l.length), a = some ⟨b, off, none⟩ ∧ w.cell? ⟨b, off + i * 3, none⟩ = some (.string (Str l[i].1)) ∧ w.cell? ⟨b, off + i * 3 + 1, none⟩ = some (.string (Str l[i].2.1)) ∧ w.cell? ⟨b, off + i * 3 + 2, none⟩ = some (.int .i64 l[i].2.2) := by
  obtain ⟨a, cap, h1, h2, h3, h5, h4⟩ := h
  by_cases hl : l = []
  · subst hl; exact ⟨0, 0, cap, a, h1, h2, h3, fun h => absurd rfl h, fun i hi => absurd hi (by simp)⟩
  · obtain ⟨b, off, e, hlt, hc⟩ := h4 hl
    exact ⟨b, off, cap, a, h1, h2, h3, fun _ => ⟨e, hlt⟩, fun i hi => ⟨e, hc i hi⟩⟩
theorem IsPairs.small {w : World} {v : Value} {l : List Pr} (h : IsPairs w v l) : ∀ x ∈ l, x.1.length ≤ maxLen ∧ x.2.1.length ≤ maxLen := by
  obtain ⟨a, cap, h1, h2, h3, h5, h4⟩ := h; exact h5

/-- A pair as cells. -/
def encP (x : Pr) : List Value := [.string (Str x.1), .string (Str x.2.1), .int .i64 x.2.2]
theorem flatP_get (l : List Pr) (i : Nat) (h : i < l.length) : (l.flatMap encP)[i * 3]? = some (.string (Str l[i].1)) ∧ (l.flatMap encP)[i * 3 + 1]? = some (.string (Str l[i].2.1)) ∧ (l.flatMap encP)[i * 3 + 2]? = some (.int .i64 l[i].2.2) := by
  induction l generalizing i with
  | nil => simp at h
  | cons s l ih =>
    have e : (s :: l).flatMap encP = .string (Str s.1) :: .string (Str s.2.1) :: .int .i64 s.2.2 :: l.flatMap encP := rfl
    rw [e]
    cases i with
    | zero => exact ⟨rfl, rfl, rfl⟩
    | succ i =>
      have := ih i (by simpa using h)
      rw [show (i + 1) * 3 = i * 3 + 3 by omega]
      exact this
theorem flatP_len (l : List Pr) : (l.flatMap encP).length = l.length * 3 := by
  induction l with
  | nil => rfl
  | cons s l ih =>
    have e : (s :: l).flatMap encP = .string (Str s.1) :: .string (Str s.2.1) :: .int .i64 s.2.2 :: l.flatMap encP := rfl
    rw [e]; simp [ih]; omega
theorem flatP_one (l : List Pr) : ∀ u ∈ l.flatMap encP, u.oneCell' = true := by
  intro u hu
  obtain ⟨x, _, hx⟩ := List.mem_flatMap.1 hu
  simp [encP] at hx
  rcases hx with rfl | rfl | rfl <;> rfl
/-- What lies behind an address, cell by cell. -/
theorem flatP_of (w : World) (b off : Nat) (l : List Pr) (hc : ∀ i (h : i < l.length), w.cell? ⟨b, off + i * 3, none⟩ = some (.string (Str l[i].1)) ∧ w.cell? ⟨b, off + i * 3 + 1, none⟩ = some (.string (Str l[i].2.1)) ∧ w.cell? ⟨b, off + i * 3 + 2, none⟩ = some (.int .i64 l[i].2.2)) :
    ∀ j u, (l.flatMap encP)[j]? = some u → w.cell? ((⟨b, off, none⟩ : Addr).add j) = some u := by
  intro j u hj
  have hlt : j < l.length * 3 := by
    rw [← flatP_len]
    exact (List.getElem?_eq_some_iff.1 hj).1
  have hadd : (⟨b, off, none⟩ : Addr).add j = ⟨b, off + j, none⟩ := by unfold Addr.add; split <;> simp_all
  rw [hadd]
  have hi : j / 3 < l.length := by omega
  have g := flatP_get l (j / 3) hi
  have c := hc (j / 3) hi
  have hcase : j = j / 3 * 3 ∨ j = j / 3 * 3 + 1 ∨ j = j / 3 * 3 + 2 := by omega
  rcases hcase with h | h | h
  · rw [h] at hj ⊢
    have hd : j / 3 * 3 / 3 = j / 3 := by omega
    rw [g.1] at hj
    rw [← Option.some.inj hj]
    exact c.1
  · rw [h] at hj ⊢
    rw [g.2.1] at hj
    rw [← Option.some.inj hj]
    exact c.2.1
  · rw [h] at hj ⊢
    rw [g.2.2] at hj
    rw [← Option.some.inj hj]
    exact c.2.2

theorem IsPairs.owned {w : World} {base : Nat} {v : Value} {n : Nat} {l : List Pr} (h : w.ownsRow base 48 3 v n (l.flatMap encP)) (hs : ∀ x ∈ l, x.1.length ≤ maxLen ∧ x.2.1.length ≤ maxLen) : IsPairs w v l := by
  have hlen := h.1
  rw [flatP_len] at hlen
  obtain rfl : n = l.length := by omega
  rcases h.2 with ⟨rfl, h0⟩ | ⟨g, cap, cur, rfl, hb, hg, hn, hm, hsz, htk⟩
  · have : l = [] := List.length_eq_zero_iff.1 h0
    subst this
    exact ⟨none, 0, rfl, Nat.le_refl _, by unfold maxLen; omega, hs, fun h => absurd rfl h⟩
  · refine ⟨_, cap, rfl, hn, hm, hs, fun hne => ⟨g, 0, rfl, (Array.getElem?_eq_some_iff.1 hg).1, fun i hi => ?_⟩⟩
    have hc : ∀ j u, (l.flatMap encP)[j]? = some u → w.cell? ⟨g, 0 + j, none⟩ = some u := by
      intro j u hj
      unfold World.cell?
      rw [hg]
      show cur[0 + j]? = _
      have h1 : (cur.toList.take (l.length * 3))[j]? = some u := by rw [htk]; exact hj
      rw [List.getElem?_take] at h1
      split at h1
      · rw [Array.getElem?_toList] at h1; rw [Nat.zero_add]; exact h1
      · cases h1
    have g3 := flatP_get l i hi
    refine ⟨hc _ _ g3.1, ?_, ?_⟩
    · rw [Nat.add_assoc]; exact hc _ _ g3.2.1
    · rw [Nat.add_assoc]; exact hc _ _ g3.2.2

theorem own_empty (W : World) (B : Nat) (hB : B ≤ W.heap.size) : (W.alloc (.cells #[] 48)).ownsRow B 48 3 (.slice (some ⟨W.heap.size, 0, none⟩) 0 0) 0 (([] : List Pr).flatMap encP) :=
  ⟨rfl, .inr ⟨W.heap.size, 0, #[], rfl, hB, Blk.new _ _ _, Nat.le_refl _, by unfold maxLen; omega, rfl, rfl⟩⟩

theorem infoP : (Tryz.prog.info? 48).map (fun i => (i.zero, i.size, i.bytes)) = some (some (.agg #[.string ⟨#[]⟩, .string ⟨#[]⟩, .int .i64 0]), 3, 40) := by kernel_rfl

theorem append_gen {w : World} {ops : Array Oper} {rest : List Oper} {o : Oper} {a : Act} {Q : Exit → Act → World → Prop} (hgd : o.guard = none) (s x : Operand) (t e : TypeId) (i0 : TypeInfo) (z : Value) (size bytes : Nat)
    (ht : Tryz.prog.underlying t = some (.slice e)) (hi : Tryz.prog.info? e = some i0) (hz0 : i0.zero = some z) (hz1 : i0.size = size) (hz2 : i0.bytes = bytes) (hzs : z.cells.size = size) (hsz : 0 < size) (hby : bytes ≤ 1000)
    (ho : o.op = .call { callee := .builtin .append, args := #[s, x], argTypes := #[t, t] }) (base : Nat) (v : Value) (n : Nat) (xs : List Value) (hs : a.eval s = v) (hown : w.ownsRow base e size v n xs)
    (p : Option Addr) (m cap : Nat) (news : List Value) (hx : a.eval x = .slice p m cap) (hnl : news.length = m * size) (hp : m ≠ 0 → ∃ ad, p = some ad ∧ ∀ j u, news[j]? = some u → w.cell? (ad.add j) = some u) (h1 : ∀ u ∈ news, u.oneCell' = true)
    (hl : n + m ≤ 1000000000) (hbase : base ≤ w.heap.size)
    (h : ∀ v' w', w'.ownsRow base e size v' (n + m) (xs ++ news) → Below base w w' → wpList Tryz.prog ops Q rest (a.put o.dst v') w') : wpList Tryz.prog ops Q (o :: rest) a w := by
  have hbytes : (n + m) * bytes ≤ 140737488355328 := Nat.le_trans (Nat.mul_le_mul hl hby) (by decide)
  cases p with
  | none =>
    have hm : m = 0 := by
      rcases Nat.eq_zero_or_pos m with h0 | h0
      · exact h0
      · obtain ⟨ad, h, _⟩ := hp (by omega)
        cases h
    subst hm
    have hn0 : news = [] := List.length_eq_zero_iff.1 (by simpa using hnl)
    subst hn0
    have hh := h v w (by simpa using hown) (Below.refl _ _)
    refine wpList_plain hgd fun K hK => ?_
    have hrun : (Builtin.append_ #[t, t] o.type #[v, .slice none 0 cap]).run Tryz.prog w = .ok v w := by
      rcases hown.2 with ⟨rfl, _⟩ | ⟨g, cap', cur, rfl, _, _, hnc, _⟩
      · simp [Builtin.append_, run_underlying ht, sizeOf, typeInfo, hi, Builtin.lenOf, Builtin.firstCells]
      · simp [Builtin.append_, run_underlying ht, sizeOf, typeInfo, hi, Builtin.lenOf, Builtin.firstCells, hnc, storeCells]
    unfold Oper.wp
    simp [execOp, ho, resolve, invoke, builtin, hs, hx, hrun, Result.andThen]
    exact hK _ _ hh
  | some ad =>
    have hcell : ∀ j u, news[j]? = some u → w.cell? (ad.add j) = some u := by
      by_cases hm : m = 0
      · have hn0 : news = [] := List.length_eq_zero_iff.1 (by rw [hnl, hm]; simp)
        subst hn0
        intro j u hj; simp at hj
      · obtain ⟨ad', e1, hc⟩ := hp hm
        cases e1
        exact hc
    refine wpList_append_own _ hgd s x t ho base e i0 z size bytes ht hi hz0 hz1 hz2 hzs hsz v n xs hs hown ad m cap news hx hnl hcell h1 (by unfold maxLen; omega) hbytes hbase ?_
    intro v' w' h2 h3 _
    exact h v' w' h2 (Below.grown (Below.refl _ _) h3 hbase (fun q hq => (hown.lt q hq).1))

theorem cells_at {w : World} {b off : Nat} {news : List Value} (hc : ∀ j u, news[j]? = some u → w.cell? ⟨b, off + j, none⟩ = some u) : ∀ j u, news[j]? = some u → w.cell? ((⟨b, off, none⟩ : Addr).add j) = some u := by
  intro j u hj
  have hadd : (⟨b, off, none⟩ : Addr).add j = ⟨b, off + j, none⟩ := by unfold Addr.add; split <;> simp_all
  rw [hadd]; exact hc j u hj


theorem append_pairs {w : World} {ops : Array Oper} {rest : List Oper} {o : Oper} {a : Act} {Q : Exit → Act → World → Prop} (hgd : o.guard = none) (s x : Operand)
    (ho : o.op = .call { callee := .builtin .append, args := #[s, x], argTypes := #[28, 28] }) (base : Nat) (v : Value) (l : List Pr) (hs : a.eval s = v) (hown : w.ownsRow base 48 3 v l.length (l.flatMap encP))
    (u : Value) (m : List Pr) (hx : a.eval x = u) (hp : IsPairs w u m) (hl : l.length + m.length ≤ 1000000000) (hbase : base ≤ w.heap.size)
    (h : ∀ v' w', w'.ownsRow base 48 3 v' (l ++ m).length ((l ++ m).flatMap encP) → Below base w w' → wpList Tryz.prog ops Q rest (a.put o.dst v') w') : wpList Tryz.prog ops Q (o :: rest) a w := by
  obtain ⟨i0, hi, hz0, hz1, hz2⟩ := info_parts infoP
  obtain ⟨p, cap, rfl, hlc, hcm, hsm, hpp⟩ := hp
  refine append_gen hgd s x 28 48 i0 (.agg #[.string ⟨#[]⟩, .string ⟨#[]⟩, .int .i64 0]) 3 40 Tryz.underlying28 hi hz0 hz1 hz2 rfl (by decide) (by decide) ho base v l.length _ hs hown p m.length cap (m.flatMap encP) hx (flatP_len m) ?_ (flatP_one m) hl hbase ?_
  · intro hm
    obtain ⟨b, off, rfl, hlt, hc⟩ := hpp (by rintro rfl; simp at hm)
    exact ⟨_, rfl, flatP_of w b off m hc⟩
  · intro v' w' h2 h3
    refine h v' w' ?_ h3
    rw [List.length_append, List.flatMap_append]; exact h2

theorem IsPairs.nil (w : World) : IsPairs w (.slice none 0 0) [] := ⟨none, 0, rfl, Nat.le_refl _, by unfold maxLen; omega, fun x hx => by simp at hx, fun h => absurd rfl h⟩
theorem below_box {w : World} (o : Obj) : Below w.heap.size w (w.alloc o) := (Below.refl _ _).alloc (Nat.le_refl _) _
theorem owns_below {w w' : World} {base : Nat} {e : TypeId} {size : Nat} {v : Value} {n : Nat} {xs : List Value} (h : w.ownsRow base e size v n xs) (hb : Below w.heap.size w w') : w'.ownsRow base e size v n xs := by
  refine ⟨h.1, ?_⟩
  rcases h.2 with hn | ⟨g, cap, cur, rfl, hg, hgg, rest⟩
  · exact .inl hn
  · refine .inr ⟨g, cap, cur, rfl, hg, ?_, rest⟩
    rw [hb.block g (Array.getElem?_eq_some_iff.1 hgg).1]; exact hgg
theorem owns_lower {w : World} {base B : Nat} {e : TypeId} {size : Nat} {v : Value} {n : Nat} {xs : List Value} (h : w.ownsRow base e size v n xs) (hb : B ≤ base) : w.ownsRow B e size v n xs := by
  refine ⟨h.1, ?_⟩
  rcases h.2 with hn | ⟨g, cap, cur, rfl, hg, rest⟩
  · exact .inl hn
  · exact .inr ⟨g, cap, cur, rfl, by omega, rest⟩

end Go.Proofs.YtmbfghbhajmpiaaGreat
namespace Go.Proofs.YtmbfghbhajmpiaaGreat
open Go.RowKit Go.Sort
set_option linter.unusedVariables false

theorem pair_cells {w : World} {v : Value} {l : List Pr} (h : IsPairs w v l) (i : Nat) (hi : i < l.length) : ∃ b off cap, v = .slice (some ⟨b, off, none⟩) l.length cap ∧ b < w.heap.size ∧ (l.length : Int) ≤ 9223372036854775807 ∧
    w.cell? ⟨b, off + i * 3, none⟩ = some (.string (Str l[i].1)) ∧ w.cell? ⟨b, off + i * 3 + 1, none⟩ = some (.string (Str l[i].2.1)) ∧ w.cell? ⟨b, off + i * 3 + 2, none⟩ = some (.int .i64 l[i].2.2) := by
  obtain ⟨b, off, cap, a, rfl, h1, h2, h3, h4⟩ := h.form
  obtain ⟨rfl, c⟩ := h4 i hi
  unfold maxLen at h2
  exact ⟨b, off, cap, rfl, (h3 (by rintro rfl; simp at hi)).2, by omega, c⟩

set_option maxHeartbeats 1000000 in
theorem placeC_w (bt bk : Nat) (v : Value) (l : List Pr) (k : Bs) (i : Nat) (W : World) (hi : i < l.length) (ht : W.cell? ⟨bt, 0, none⟩ = some v) (hk : W.cell? ⟨bk, 0, none⟩ = some (.string (Str k))) (hp : IsPairs W v l) :
    Calls Tryz.prog 305 (#[.int .i64 i] ++ #[.pointer (some ⟨bt, 0, none⟩), .pointer (some ⟨bk, 0, none⟩)]) W fun e w' => e = .returned (.bool (!Op.bytesLess (l[i]?.getD ([], [], 0)).1 k)) ∧ ∃ q, w' = W.drewN q := by
  obtain ⟨b, off, cap, rfl, hb, hl, c0, c1, c2⟩ := pair_cells hp i hi
  rw [List.getElem?_eq_getElem hi, Option.getD_some]
  clear hp
  generalize l[i] = x at *
  have hiz : (i : Int) < (l.length : Int) := by omega
  generalize l.length = n at *
  have mixed := mixedA
  go_enter Tryz.func305, Tryz.ntmps305
  go_wp2
  go_region
  all_goals go_wp2
  all_goals go_ret
  all_goals exact ⟨by first | rfl | simp, 1, rfl⟩

set_option maxHeartbeats 2000000 in
theorem place_w (v : Value) (l : List Pr) (k : Bs) (w : World) (h : IsPairs w v l) (hs : Srt l) (hl : l.length ≤ 1000000000) :
    Calls Tryz.prog 303 #[v, .string (Str k)] w fun e w' => e = .returned (.int .i64 (placeS l k : Nat)) ∧ Grown w w' := by
  have eg : ∀ args w, (callFunc 305 args).run Tryz.prog w = .ok (.enter 305 args) w := enters_of Tryz.func305 (by kernel_rfl) rfl
  obtain ⟨W0, hW0⟩ : ∃ W0, W0 = (w.alloc (.cells #[v] 28)).alloc (.cells #[.string (Str k)] 9) := ⟨_, rfl⟩
  have hg0 : Grown w W0 := by rw [hW0]; exact ((Grown.refl w).alloc _).alloc _
  have b1 : Blk W0 w.heap.size 28 #[v] := by rw [hW0]; exact (Blk.new _ _ _).alloc _
  have b2 : Blk W0 (w.heap.size + 1) 9 #[.string (Str k)] := by rw [hW0]; exact Blk.new' _ _ _ (by simp)
  have hp0 : IsPairs W0 v l := h.below (hg0.below (Nat.le_refl _))
  obtain ⟨b, off, cap, a, hv, hlc, hcm, _, _⟩ := h.form
  unfold maxLen at hcm
  have hcon := Any.sort_Search Tryz.searchL 305 #[.pointer (some ⟨w.heap.size, 0, none⟩), .pointer (some ⟨w.heap.size + 1, 0, none⟩)] l.length (fun i => !Op.bytesLess (l[i]?.getD ([], [], 0)).1 k) W0 eg (by omega)
    (fun m os i hi => (placeC_w w.heap.size (w.heap.size + 1) v l k i _ hi (b1.c 0 _ rfl m os) (b2.c 0 _ rfl m os) (hp0.below (below_grown W0 m os (Nat.le_refl _)))).mono fun e w' ⟨h1, q, h2⟩ => ⟨h1, q, #[], by rw [h2, grow_empty]⟩)
    (fun i j hij hj hi => by
      have hi' : i < l.length := by omega
      simp only [List.getElem?_eq_getElem hi', List.getElem?_eq_getElem hj, Option.getD_some] at hi ⊢
      exact place_test hs k i j hij hj hi)
  change Calls Tryz.prog 112 _ _ _ at hcon
  rw [place_count] at hcon
  have Hg0 := Lib.hid hg0
  have Hc := Lib.hid hcon
  have c1 := b1.c0 0 _ rfl
  have hz := Nat.lt_of_lt_of_le (show w.heap.size < w.heap.size + 1 from Nat.lt_succ_self _) (Nat.le_refl _)
  clear hcon hp0 b2 hs eg h hg0 b1
  subst hv
  generalize placeS l k = r at *
  go_enter Tryz.func303, Tryz.ntmps303
  go_wp2_with fail
  subst hW0
  refine Hc.out.mono ?_
  rintro e w' ⟨rfl, q, os, rfl⟩
  go_wp2
  go_ret
  exact ⟨rfl, Hg0.out.trans ⟨q, os, rfl⟩⟩

set_option maxRecDepth 100000 in
set_option maxHeartbeats 2000000 in
theorem borders_w (v : Value) (l : List Pr) (lo hi : Bs) (w : World) (h : IsPairs w v l) (hs : Srt l) (hl : l.length ≤ 1000000000) :
    Calls Tryz.prog 301 #[v, .agg #[.string (Str lo), .string (Str hi)]] w fun e w' => e = .returned (.tuple #[.int .i64 (lowS l (lo, hi) : Nat), .int .i64 (highS l (lo, hi) : Nat)]) ∧ Grown w w' := by
  obtain ⟨W0, hW0⟩ : ∃ W0, W0 = w.alloc (.cells #[.string (Str lo), .string (Str hi)] 41) := ⟨_, rfl⟩
  have hg0 : Grown w W0 := by rw [hW0]; exact (Grown.refl w).alloc _
  have b0 : Blk W0 w.heap.size 41 #[.string (Str lo), .string (Str hi)] := by rw [hW0]; exact Blk.new _ _ _
  have hp0 : IsPairs W0 v l := h.below (hg0.below (Nat.le_refl _))
  have he := fun wx => empty_w lo hi wx
  have hpl := fun k (w1 : World) (hg : Grown W0 w1) => place_w v l k w1 (hp0.below (hg.below (Nat.le_refl _))) hs hl
  have HB0 := Lib.hid b0
  have Hg0 := Lib.hid hg0
  have HL : Hid (lowS l (lo, hi) = if emptyB (lo, hi) then 0 else placeS l lo) := Lib.hid rfl
  have HH : Hid (highS l (lo, hi) = if emptyB (lo, hi) then 0 else if hi = [] then l.length else placeS l hi) := Lib.hid rfl
  obtain ⟨b, off, cap, a, rfl, hlc, hcm, _, _⟩ := h.form
  unfold maxLen at hcm
  have Hpl := Lib.hid hpl
  clear hpl hp0 h hs hg0 b0
  generalize lowS l (lo, hi) = ls at *
  generalize highS l (lo, hi) = us at *
  have mixed := mixedA
  cases hem : emptyB (lo, hi) with
  | true =>
    rw [hem] at HL HH he
    simp only [↓reduceIte] at HL HH
    have Hem := Lib.hid he
    clear he hem
    go_enter Tryz.func301, Tryz.ntmps301
    go_wp2_with fail
    subst hW0
    refine (Hem.out _).mono ?_
    rintro e w1 ⟨rfl, hg⟩
    have Hg := Lib.hid hg
    clear hg
    go_wp2
    go_ret2
    exact ⟨by rw [HL.out, HH.out]; rfl, Hg0.out.trans Hg.out⟩
  | false =>
    rw [hem] at HL HH he
    simp only [Bool.false_eq_true, ↓reduceIte] at HL HH
    have Hem := Lib.hid he
    clear he hem
    by_cases hh : hi = []
    · rw [if_pos hh] at HH
      subst hh
      go_enter Tryz.func301, Tryz.ntmps301
      go_wp2_with fail
      subst hW0
      refine (Hem.out _).mono ?_
      rintro e w1 ⟨rfl, hg⟩
      have hB := HB0.out.below (hg.below (Nat.le_refl _)) HB0.out.lt
      have c0 := hB.c0 0 _ rfl
      have c1 := hB.c0 1 _ rfl
      have Hg := Lib.hid hg
      clear hg hB
      go_wp2_with fail
      refine (Hpl.out lo _ Hg.out).mono ?_
      rintro e w2 ⟨rfl, hg⟩
      have Hg2 := Lib.hid hg
      clear hg
      go_wp2
      go_ret2
      exact ⟨by rw [HL.out, HH.out]; try rfl, (Hg0.out.trans Hg.out).trans Hg2.out⟩
    · rw [if_neg hh] at HH
      have hne : hi.isEmpty = false := by simpa using hh
      clear hh
      go_enter Tryz.func301, Tryz.ntmps301
      go_wp2_with fail
      subst hW0
      refine (Hem.out _).mono ?_
      rintro e w1 ⟨rfl, hg⟩
      have hB := HB0.out.below (hg.below (Nat.le_refl _)) HB0.out.lt
      have c0 := hB.c0 0 _ rfl
      have c1 := hB.c0 1 _ rfl
      have d0 := hB.c 0 _ rfl
      have d1 := hB.c 1 _ rfl
      have Hg := Lib.hid hg
      clear hg hB
      go_wp2_with fail
      go_quiet_grown (first
        | (go_at_call_of 303 (Value.string (Str lo)); refine calls_grown (Hpl.out lo _ (Hg.out.trans ⟨_, _, rfl⟩)))
        | (go_at_call 303; refine calls_grown (Hpl.out hi _ (Hg.out.trans ⟨_, _, rfl⟩))))
      go_wp2
      go_ret2
      exact ⟨by rw [HL.out, HH.out]; try rfl, (Hg0.out.trans Hg.out).trans ⟨_, _, rfl⟩⟩

end Go.Proofs.YtmbfghbhajmpiaaGreat
namespace Go.Proofs.YtmbfghbhajmpiaaGreat
open Go.RowKit Go.Sort
set_option linter.unusedVariables false

/-- A list of pairs handed back in memory of the call's own. -/
def OwnOut (B : Nat) (w : World) (l : List Pr) (e : Ending) (w' : World) : Prop :=
  ∃ v', e = .returned v' ∧ w'.ownsRow B 48 3 v' l.length (l.flatMap encP) ∧ IsPairs w' v' l ∧ Below B w w'
theorem IsPairs.sliced {w : World} {a : Option Addr} {n cap : Nat} {l : List Pr} (h : IsPairs w (.slice a n cap) l) (lo hi : Nat) (h1 : lo ≤ hi) (h2 : hi ≤ l.length) :
    IsPairs w (sliced a lo hi cap 3) ((l.take hi).drop lo) := by
  obtain ⟨a', cap', e, hlc, hcm, hs, hc⟩ := h
  cases e
  have hll : ((l.take hi).drop lo).length = hi - lo := by rw [List.length_drop, List.length_take]; omega
  refine ⟨_, cap - lo, by rw [hll]; rfl, by omega, by omega, fun x hx => hs x (List.mem_of_mem_take (List.mem_of_mem_drop hx)), fun hne => ?_⟩
  have hlt : lo < hi := by
    rcases Nat.lt_or_ge lo hi with h | h
    · exact h
    · exfalso; apply hne; apply List.length_eq_zero_iff.1; omega
  obtain ⟨b, off, rfl, hb, hcell⟩ := hc (by rintro rfl; simp at h2; omega)
  have hadd : (⟨b, off, none⟩ : Addr).add (lo * 3) = ⟨b, off + lo * 3, none⟩ := by unfold Addr.add; split <;> simp_all
  refine ⟨b, off + lo * 3, by rw [if_neg (by omega)]; simp [hadd], hb, fun i hi' => ?_⟩
  have hc3 := hcell (lo + i) (by rw [hll] at hi'; omega)
  have e3 : off + lo * 3 + i * 3 = off + (lo + i) * 3 := by omega
  rw [e3]
  simpa using hc3
theorem sizeP : (sizeOf (Tryz.prog.elem 28)) = sizeOf 48 := by
  rw [show Tryz.prog.elem 28 = 48 by kernel_rfl]
theorem elemP : Tryz.prog.underlying 28 = some (.slice (Tryz.prog.elem 28)) := by
  rw [show Tryz.prog.elem 28 = 48 by kernel_rfl]; exact Tryz.underlying28
theorem slice_lh (a : Option Addr) (n cap lo hi : Nat) (h1 : lo ≤ hi) (h2 : hi ≤ cap) (w : World) : (Instr.slice 28 (.slice a n cap) (some (.int .i64 lo)) (some (.int .i64 hi)) none).run Tryz.prog w = .ok (sliced a lo hi cap 3) w := by
  rw [run_slice_lh w 28 a n cap elemP .i64 .i64 lo hi (by omega) (by omega) (by omega), sizeP, Tryz.sizeOf48]; rfl
theorem slice_h (a : Option Addr) (n cap hi : Nat) (h2 : hi ≤ cap) (w : World) : (Instr.slice 28 (.slice a n cap) none (some (.int .i64 hi)) none).run Tryz.prog w = .ok (sliced a 0 hi cap 3) w := by
  rw [run_slice_h w 28 a n cap elemP .i64 hi (by omega) (by omega), sizeP, Tryz.sizeOf48]; rfl
theorem slice_l (a : Option Addr) (n cap lo : Nat) (h2 : lo ≤ n) (w : World) : (Instr.slice 28 (.slice a n cap) (some (.int .i64 lo)) none none).run Tryz.prog w = .ok (sliced a lo n cap 3) w := by
  rw [run_slice_l w 28 a n cap elemP .i64 lo (by omega) (by omega), sizeP, Tryz.sizeOf48]; rfl

set_option maxHeartbeats 2000000 in
theorem clone_w (v : Value) (l : List Pr) (w : World) (h : IsPairs w v l) (hl : l.length ≤ 1000000000) :
    Calls Tryz.prog 87 #[v] w (OwnOut w.heap.size w l) := by
  obtain ⟨a, cap, hv, _, _, hs, hc⟩ := id h
  have H := Lib.hid h
  have HS := Lib.hid hs
  clear h hs
  subst hv
  cases a with
  | none =>
    have hn : l = [] := by
      rcases l with _ | ⟨x, r⟩
      · rfl
      · obtain ⟨b, off, e, _⟩ := hc (by simp); cases e
    subst hn
    clear hc
    have q26 : ∀ (w : World) (a : Option Addr) (n c n' c' : Nat), (binOp .eql 28 (.slice a n c) (.slice none n' c')).run Tryz.prog w = .ok (.bool a.isNone) w := fun w a n c n' c' => Lib.run_eql_slice_nil w _ _ a n c n' c' Tryz.underlying28
    go_enter Tryz.func87, Tryz.ntmps87
    go_wp2
    go_ret
    exact ⟨_, rfl, World.ownsRow_nil _ _ _ _, IsPairs.nil _, Below.refl _ _⟩
  | some ad =>
    clear hc
    have q26 : ∀ (w : World) (a : Option Addr) (n c n' c' : Nat), (binOp .eql 28 (.slice a n c) (.slice none n' c')).run Tryz.prog w = .ok (.bool a.isNone) w := fun w a n c n' c' => Lib.run_eql_slice_nil w _ _ a n c n' c' Tryz.underlying28
    go_enter Tryz.func87, Tryz.ntmps87
    go_wp2_with (at_builtin; refine append_pairs rfl _ _ rfl w.heap.size _ [] rfl (own_empty w w.heap.size (Nat.le_refl _)) _ l rfl (H.out.below (below_box _)) (by simp; omega) (by simp) ?_; intro v' w1 hown hbel)
    have Hown := Lib.hid hown
    have Hbel : Hid (Below w.heap.size w w1) := Lib.hid ((below_box _).trans hbel)
    clear hown hbel
    go_wp2
    go_ret
    exact ⟨_, rfl, Hown.out, IsPairs.owned Hown.out HS.out, Hbel.out⟩

theorem zero_size (z : Array Value) (n : Nat) : (Builtin.zeroCells z n).size = n * z.size := by simp [Builtin.zeroCells]
theorem grow_w (n : Nat) (w : World) (hn : n ≤ 1000000000) : Calls Tryz.prog 304 #[.slice none 0 0, .int .i64 n] w (OwnOut w.heap.size w []) := by
  obtain ⟨i0, hi, hz0, hz1, hz2⟩ := info_parts infoP
  by_cases h0 : n = 0
  · subst h0
    refine (Any8.slices_Grow_room Tryz.growL none 0 0 0 w (Nat.le_refl _) (by omega) (by omega) (by omega)).mono fun e w' ⟨h1, h2⟩ => ?_
    subst h2
    exact ⟨_, h1, World.ownsRow_nil _ _ _ _, IsPairs.nil _, Below.refl _ _⟩
  · have hcap := grownCap_ge w (0 + n) 0 48
    have hmax := grownCap_le_maxLen w (0 + n) 0 48 (by unfold maxLen; omega)
    refine (Any8.slices_Grow_grow Tryz.growL i0 _ hi hz0 (by omega) none 0 0 n [] w (Nat.le_refl _) (by omega) (by rw [hz2]; omega) (by omega) (by simp) (fun _ => rfl) (fun a h => by cases h)).mono fun e w' ⟨h1, h2⟩ => ?_
    change w' = w.drew.alloc (.cells _ 48) at h2
    change e = .returned (.slice _ 0 (grownCap w (0 + n) 0 48)) at h1
    have hown : w'.ownsRow w.heap.size 48 3 (.slice (some ⟨w.heap.size, 0, none⟩) 0 (grownCap w (0 + n) 0 48)) ([] : List Pr).length (([] : List Pr).flatMap encP) := by
      subst h2
      refine World.ownsRow_made (base := w.heap.size) w.drew _ _ (Nat.le_refl _) hmax ?_
      simp only [Array.size_append, zero_size]
      have h3 : (Value.agg #[Value.string ⟨#[]⟩, Value.string ⟨#[]⟩, Value.int .i64 0]).cells.size = 3 := rfl
      have h4 : (#[] : Array Value).size = 0 := rfl
      rw [h3]
      show 0 + (0 + n - 0) * 3 + (grownCap w (0 + n) 0 48 - (0 + n)) * 3 = grownCap w (0 + n) 0 48 * 3
      omega
    refine ⟨_, h1, hown, IsPairs.owned hown (fun x hx => by simp at hx), ?_⟩
    subst h2
    exact (show Below w.heap.size w w.drew from ⟨rfl, rfl, rfl, Nat.le_refl _, fun _ _ => rfl⟩).trans (show Below w.heap.size w.drew (w.drew.alloc _) from below_box (w := w.drew) _)

end Go.Proofs.YtmbfghbhajmpiaaGreat
namespace Go.Proofs.YtmbfghbhajmpiaaGreat
open Go.RowKit Go.Sort
set_option linter.unusedVariables false

/-- The first k lists, joined. -/
def joinK (ls : List (List Pr)) (k : Nat) : List Pr := (ls.take k).flatten
theorem join_zero (ls : List (List Pr)) : joinK ls 0 = [] := rfl
theorem join_all (ls : List (List Pr)) : joinK ls ls.length = ls.flatten := by unfold joinK; rw [List.take_length]
theorem join_take (ls : List (List Pr)) (k : Nat) (h : k < ls.length) : joinK ls (k + 1) = joinK ls k ++ ls[k] := by
  unfold joinK
  rw [List.take_add_one, List.getElem?_eq_getElem h, List.flatten_append]; simp only [Option.toList, List.flatten_cons, List.flatten_nil, List.append_nil]
theorem join_le (ls : List (List Pr)) (k : Nat) : (joinK ls k).length ≤ ls.flatten.length := by
  unfold joinK
  conv => rhs; rw [← List.take_append_drop k ls]
  rw [List.flatten_append, List.length_append]; omega

set_option maxRecDepth 100000 in
set_option maxHeartbeats 4000000 in
theorem concat_w (b : Nat) (vs : List Value) (ls : List (List Pr)) (w : World) (hb : Blk w b 28 vs.toArray) (hlen : vs.length = ls.length) (hlc : ls.length ≤ 1000)
    (h : ∀ i (hi : i < ls.length) (hv : i < vs.length), IsPairs w vs[i] ls[i]) (htot : ls.flatten.length ≤ 1000000000) :
    Calls Tryz.prog 302 #[.slice (some ⟨b, 0, none⟩) ls.length ls.length] w (OwnOut w.heap.size w ls.flatten) := by
  have Hsm : Hid (∀ x ∈ ls.flatten, x.1.length ≤ maxLen ∧ x.2.1.length ≤ maxLen) := Lib.hid (by
    intro x hx
    obtain ⟨l, hl, hx⟩ := List.mem_flatten.1 hx
    obtain ⟨i, hi, rfl⟩ := List.mem_iff_getElem.1 hl
    exact (h i hi (by omega)).small x hx)
  have hblt := hb.lt
  have HB := Lib.hid hb
  have H := Lib.hid h
  have Hlen := Lib.hid hlen
  have htk := join_le ls
  have hall := join_all ls
  generalize ls.flatten = all at *
  have Hall := Lib.hid hall
  have Htk := Lib.hid htk
  clear h hb hlen htk hall
  go_enter Tryz.func302, Tryz.ntmps302
  go_wp2
  go_loop [3, 11] (fun s i => ∃ k : Nat, k ≤ ls.length ∧ i = .int .i64 k ∧ s = .int .i64 ((joinK ls k).length : Nat)) (fun _ i => ls.length - (intOf i).toNat)
  case atStart => exact ⟨0, Nat.zero_le _, rfl, rfl⟩
  case round =>
    obtain ⟨k, hk, rfl, rfl⟩ := hrel
    by_cases hlt : k < ls.length
    · have hkv : k < vs.length := by have := Hlen.out; omega
      have hkk := H.out k hlt hkv
      have hc0 := HB.out.c0 k vs[k] (by simp [hkv])
      have hft : Hid ((joinK ls (k + 1)).length = (joinK ls k).length + ls[k].length) := Lib.hid (by rw [join_take ls k hlt, List.length_append])
      have hle1 := Htk.out k
      have hle2 := Htk.out (k + 1)
      rw [hft.out] at hle2
      have hltz : (k : Int) < (ls.length : Int) := by omega
      obtain ⟨-, -, capk, pk, hvk, -⟩ := hkk.form
      rw [hvk] at hc0
      clear hkk hvk
      generalize (joinK ls k).length = s at *
      generalize ls[k].length = m at *
      go_wp2
      go_round
      case rel => exact ⟨k + 1, by omega, by go_num, by rw [hft.out]; go_num⟩
      case measure => simp [intOf]; omega
    · obtain rfl : k = ls.length := by omega
      rw [Hall.out]
      go_wp2_with fail
      refine (grow_w all.length w htot).mono ?_
      rintro e w1 ⟨vg, rfl, hown, _, hbel⟩
      have Hown := Lib.hid hown
      have Hbel := Lib.hid hbel
      clear hown hbel
      go_wp2
      go_loopw [6, 27] (fun s i wr => ∃ k : Nat, k ≤ ls.length ∧ i = .int .i64 k ∧ wr.ownsRow w.heap.size 48 3 s (joinK ls k).length ((joinK ls k).flatMap encP) ∧ Below w.heap.size w wr) (fun _ i _ => ls.length - (intOf i).toNat)
      case atStart => exact ⟨0, Nat.zero_le _, rfl, Hown.out, Hbel.out⟩
      case round =>
        obtain ⟨k, hk, rfl, hown, hbel⟩ := hrel
        have Hown := Lib.hid hown
        have Hbel := Lib.hid hbel
        have hsz := hbel.size
        clear hown hbel
        by_cases hlt : k < ls.length
        · have hkv : k < vs.length := by have := Hlen.out; omega
          have hkk := Lib.hid ((H.out k hlt hkv).below Hbel.out)
          have hc0 := (HB.out.below Hbel.out hblt).c0 k vs[k] (by simp [hkv])
          have hft := Lib.hid (join_take ls k hlt)
          have hle2 : (joinK ls k).length + ls[k].length ≤ 1000000000 := by
            have := Htk.out (k + 1); rw [hft.out, List.length_append] at this; omega
          have hltz : (k : Int) < (ls.length : Int) := by omega
          generalize vs[k] = vk at *
          generalize ls[k] = lk at *
          generalize (joinK ls k) = left at *
          go_wp2_with (at_builtin; refine append_pairs rfl _ _ rfl w.heap.size _ left rfl Hown.out _ lk rfl hkk.out (by omega) hsz ?_; intro v' w2 hown2 hbel2)
          have Hown2 := Lib.hid hown2
          have Hbel2 := Lib.hid (Hbel.out.trans hbel2)
          clear hown2 hbel2
          go_wp2
          go_roundw
          case rel => exact ⟨k + 1, by omega, by go_num, by rw [hft.out]; exact Hown2.out, Hbel2.out⟩
          case measure => simp [intOf]; omega
        · obtain rfl : k = ls.length := by omega
          rw [Hall.out] at Hown
          go_wp2
          go_ret
          exact ⟨_, rfl, Hown.out, IsPairs.owned Hown.out Hsm.out, Hbel.out⟩

end Go.Proofs.YtmbfghbhajmpiaaGreat
namespace Go.Proofs.YtmbfghbhajmpiaaGreat
open Go.RowKit Go.Sort
set_option linter.unusedVariables false

theorem OwnOut.lower {B C : Nat} {w w0 : World} {l : List Pr} {e : Ending} {w' : World} (h : OwnOut B w l e w') (hg : Below C w0 w) (hC : C ≤ B) : OwnOut C w0 l e w' := by
  obtain ⟨v', h1, h2, h3, h4⟩ := h
  exact ⟨v', h1, owns_lower h2 hC, h3, hg.trans (h4.mono hC)⟩

set_option maxRecDepth 100000 in
set_option maxHeartbeats 2000000 in
theorem range_w (v : Value) (l : List Pr) (lo hi : Bs) (w : World) (h : IsPairs w v l) (hs : Srt l) (hl : l.length ≤ 500000000) :
    Calls Tryz.prog 334 #[v, .agg #[.string (Str lo), .string (Str hi)]] w (OwnOut w.heap.size w (rangeS (lo, hi) l)) := by
  have hb := fun w1 (hg : Grown w w1) => borders_w v l lo hi w1 (h.below (hg.below (Nat.le_refl _))) hs (by omega)
  have hle := borders_le l (lo, hi)
  have hcut := (borders_cut hs (lo, hi)).1
  have hfl : (rangeS (lo, hi) l).length ≤ l.length := List.length_filter_le _ _
  generalize rangeS (lo, hi) l = out at *
  generalize lowS l (lo, hi) = a at *
  generalize highS l (lo, hi) = b at *
  obtain ⟨-, -, cap, p, rfl, hlc, hcm, -⟩ := h.form
  have hab := hle.1
  have hbc : b ≤ cap := by omega
  obtain ⟨V, hV⟩ : ∃ V, V = sliced p a b cap 3 := ⟨_, rfl⟩
  have hsl := slice_lh p l.length cap a b hab hbc
  rw [← hV] at hsl
  have HV : Hid (∀ w1, Grown w w1 → IsPairs w1 V out) := Lib.hid (fun w1 hg => by rw [hV, ← hcut]; exact IsPairs.sliced (h.below (hg.below (Nat.le_refl _))) a b hab hle.2)
  have Hb := Lib.hid hb
  clear hb h hs hcut hV hle hlc hcm hbc
  go_enter Tryz.func334, Tryz.ntmps334
  go_wp2_with fail
  refine (Hb.out _ ((Grown.refl w).alloc _)).mono ?_
  rintro e w1 ⟨rfl, hg⟩
  have Hg : Hid (Grown w w1) := Lib.hid (((Grown.refl w).alloc _).trans hg)
  clear hg Hb
  go_wp2_with fail
  refine (clone_w V out w1 (HV.out w1 Hg.out) (by omega)).mono ?_
  intro e w2 h2
  have Hb1 := Lib.hid (Hg.out.below (B := w.heap.size) (Nat.le_refl _))
  have H2 := Lib.hid (h2.lower Hb1.out Hb1.out.size)
  obtain ⟨v', rfl, -⟩ := h2
  go_wp2
  go_ret
  exact H2.out

set_option maxRecDepth 100000 in
set_option maxHeartbeats 2000000 in
theorem drop_w (v : Value) (l : List Pr) (lo hi : Bs) (w : World) (h : IsPairs w v l) (hs : Srt l) (hl : l.length ≤ 500000000) :
    Calls Tryz.prog 313 #[v, .agg #[.string (Str lo), .string (Str hi)]] w (OwnOut w.heap.size w (dropS (lo, hi) l)) := by
  have hb := fun w1 (hg : Grown w w1) => borders_w v l lo hi w1 (h.below (hg.below (Nat.le_refl _))) hs (by omega)
  have hle := borders_le l (lo, hi)
  have hcut := (borders_cut hs (lo, hi)).2
  have hfl : (dropS (lo, hi) l).length ≤ l.length := List.length_filter_le _ _
  generalize dropS (lo, hi) l = out at *
  generalize lowS l (lo, hi) = a at *
  generalize highS l (lo, hi) = b at *
  obtain ⟨-, -, cap, p, rfl, hlc, hcm, -⟩ := h.form
  have hab := hle.1
  have hbl := hle.2
  obtain ⟨p1, m1, c1, hV1⟩ : ∃ p1 m1 c1, Value.slice p1 m1 c1 = sliced p 0 a cap 3 := ⟨_, _, _, rfl⟩
  obtain ⟨p2, m2, c2, hV2⟩ : ∃ p2 m2 c2, Value.slice p2 m2 c2 = sliced p b l.length cap 3 := ⟨_, _, _, rfl⟩
  have hsl1 := slice_h p l.length cap a (by omega)
  have hsl2 := slice_l p l.length cap b (by omega)
  rw [← hV1] at hsl1
  rw [← hV2] at hsl2
  have HV1 : Hid (∀ w1, Below w.heap.size w w1 → IsPairs w1 (.slice p1 m1 c1) (l.take a)) := Lib.hid (fun w1 hg => by rw [hV1]; exact IsPairs.sliced (h.below hg) 0 a (Nat.zero_le _) (by omega))
  have HV2 : Hid (∀ w1, Below w.heap.size w w1 → IsPairs w1 (.slice p2 m2 c2) (l.drop b)) := Lib.hid (fun w1 hg => by
    rw [hV2]; have := IsPairs.sliced (h.below hg) b l.length (by omega) (Nat.le_refl _); rwa [List.take_length] at this)
  have Hb := Lib.hid hb
  have Hout : Hid ([l.take a, l.drop b].flatten = out) := Lib.hid (by rw [← hcut]; simp)
  have Hc : Hid (∀ w1 wx n, Below w.heap.size w w1 → w1.heap.size = n → Below w1.heap.size w1 wx → Blk wx n 28 #[.slice p1 m1 c1, .slice p2 m2 c2] → Calls Tryz.prog 302 #[.slice (some ⟨n, 0, none⟩) 2 2] wx (OwnOut w.heap.size w out)) := Lib.hid (by
    intro w1 wx n hb1 hn hbx hblk
    subst hn
    have hbw : Below w.heap.size w wx := hb1.trans (hbx.mono hb1.size)
    have hbs := hbw.size
    refine (concat_w w1.heap.size [.slice p1 m1 c1, .slice p2 m2 c2] [l.take a, l.drop b] wx hblk rfl (by simp) ?_ (by rw [Hout.out]; omega)).mono fun e w' hh => ?_
    · intro i hi hv
      match i, hi with
      | 0, _ => exact HV1.out _ hbw
      | 1, _ => exact HV2.out _ hbw
    · rw [Hout.out] at hh
      exact hh.lower hbw hbs)
  clear hb h hs hcut hV1 hV2 hle hlc hcm HV1 HV2 Hout
  go_enter Tryz.func313, Tryz.ntmps313
  go_wp2_with fail
  refine (Hb.out _ ((Grown.refl w).alloc _)).mono ?_
  rintro e w1 ⟨rfl, hg⟩
  have Hg : Hid (Below w.heap.size w w1) := Lib.hid ((((Grown.refl w).alloc _).trans hg).below (Nat.le_refl _))
  clear hg Hb
  go_wp2_with fail
  go_region_with (go_at_call 302; refine (Hc.out w1 _ _ Hg.out rfl (by exact (show Below w1.heap.size w1 w1.drew from ⟨rfl, rfl, rfl, Nat.le_refl _, fun _ _ => rfl⟩).trans (show Below w1.heap.size w1.drew (w1.drew.alloc _) from below_box (w := w1.drew) _)) (by exact Blk.new' _ _ _ rfl)).mono ?_; intro e w2 h2; have H2 := Lib.hid h2; obtain ⟨v', rfl, -⟩ := h2)
  all_goals
    go_wp2
    go_ret
    exact H2.out

set_option maxRecDepth 100000 in
set_option maxHeartbeats 2000000 in
theorem del_w (v : Value) (l : List Pr) (k : Bs) (w : World) (h : IsPairs w v l) (hs : Srt l) (hl : l.length ≤ 500000000) (hk : k.length ≤ 140737488355328) :
    Calls Tryz.prog 312 #[v, .string (Str k)] w (OwnOut w.heap.size w (delS k l)) := by
  have hd := fun w1 (hg : Below w.heap.size w w1) => drop_w v l k (k ++ [0]) w1 (h.below hg) hs hl
  have he : dropS (k, k ++ [0]) l = delS k l := drop_one k l
  rw [he] at hd
  have Hd := Lib.hid hd
  have Ho := Lib.hid (one_w k w hk)
  clear hd h hs he
  go_enter Tryz.func312, Tryz.ntmps312
  go_wp2_with fail
  refine Ho.out.mono ?_
  rintro e w1 ⟨rfl, hg⟩
  have Hg : Hid (Below w.heap.size w w1) := Lib.hid (hg.below (Nat.le_refl _))
  clear hg Ho
  go_wp2_with fail
  refine (Hd.out w1 Hg.out).mono ?_
  intro e w2 h2
  have H2 := Lib.hid (h2.lower Hg.out Hg.out.size)
  obtain ⟨v', rfl, -⟩ := h2
  go_wp2
  go_ret
  exact H2.out

set_option maxRecDepth 100000 in
set_option maxHeartbeats 4000000 in
theorem put_w (v : Value) (l : List Pr) (k x : Bs) (t : Int) (w : World) (h : IsPairs w v l) (hs : Srt l) (hl : l.length ≤ 500000000) (hk : k.length ≤ 140737488355328) (hx : x.length ≤ maxLen) :
    Calls Tryz.prog 297 #[v, .agg #[.string (Str k), .string (Str x), .int .i64 t]] w (OwnOut w.heap.size w (putS (k, x, t) l)) := by
  obtain ⟨W0, hW0⟩ : ∃ W0, W0 = w.alloc (.cells #[.string (Str k), .string (Str x), .int .i64 t] 48) := ⟨_, rfl⟩
  have hg0 : Grown w W0 := by rw [hW0]; exact (Grown.refl w).alloc _
  have b0 : Blk W0 w.heap.size 48 #[.string (Str k), .string (Str x), .int .i64 t] := by rw [hW0]; exact Blk.new _ _ _
  have hb := fun w1 (hg : Grown w w1) => borders_w v l k (k ++ [0]) w1 (h.below (hg.below (Nat.le_refl _))) hs (by omega)
  have hle := borders_le l (k, k ++ [0])
  have hcut : l.take (lowS l (k, k ++ [0])) ++ (k, x, t) :: l.drop (highS l (k, k ++ [0])) = putS (k, x, t) l := put_cut hs (k, x, t)
  have hfl : (putS (k, x, t) l).length ≤ l.length + 1 := put_length _ _
  generalize putS (k, x, t) l = out at *
  generalize lowS l (k, k ++ [0]) = a at *
  generalize highS l (k, k ++ [0]) = b at *
  obtain ⟨-, -, cap, p, rfl, hlc, hcm, -⟩ := h.form
  have hab := hle.1
  have hbl := hle.2
  obtain ⟨p1, m1, c1, hV1⟩ : ∃ p1 m1 c1, Value.slice p1 m1 c1 = sliced p 0 a cap 3 := ⟨_, _, _, rfl⟩
  obtain ⟨p2, m2, c2, hV2⟩ : ∃ p2 m2 c2, Value.slice p2 m2 c2 = sliced p b l.length cap 3 := ⟨_, _, _, rfl⟩
  have hsl1 := slice_h p l.length cap a (by omega)
  have hsl2 := slice_l p l.length cap b (by omega)
  rw [← hV1] at hsl1
  rw [← hV2] at hsl2
  have HV1 : Hid (∀ w1, Below w.heap.size w w1 → IsPairs w1 (.slice p1 m1 c1) (l.take a)) := Lib.hid (fun w1 hg => by rw [hV1]; exact IsPairs.sliced (h.below hg) 0 a (Nat.zero_le _) (by omega))
  have HV2 : Hid (∀ w1, Below w.heap.size w w1 → IsPairs w1 (.slice p2 m2 c2) (l.drop b)) := Lib.hid (fun w1 hg => by
    rw [hV2]; have := IsPairs.sliced (h.below hg) b l.length (by omega) (Nat.le_refl _); rwa [List.take_length] at this)
  have Hb := Lib.hid hb
  have Hout : Hid ([l.take a, [(k, x, t)], l.drop b].flatten = out) := Lib.hid (by rw [← hcut]; simp)
  have hkm : k.length ≤ maxLen := by unfold maxLen; omega
  have Hc : Hid (∀ w1 wx n, Below w.heap.size w w1 → w1.heap.size = n → Below w1.heap.size w1 wx → Blk wx n 48 #[.string (Str k), .string (Str x), .int .i64 t] → Blk wx (n + 1) 28 #[.slice p1 m1 c1, .slice (some ⟨n, 0, none⟩) 1 1, .slice p2 m2 c2] →
      Calls Tryz.prog 302 #[.slice (some ⟨n + 1, 0, none⟩) 3 3] wx (OwnOut w.heap.size w out)) := Lib.hid (by
    intro w1 wx n hb1 hn hbx hblk0 hblk
    subst hn
    have hbw : Below w.heap.size w wx := hb1.trans (hbx.mono hb1.size)
    have hbs := hbw.size
    refine (concat_w (w1.heap.size + 1) [.slice p1 m1 c1, .slice (some ⟨w1.heap.size, 0, none⟩) 1 1, .slice p2 m2 c2] [l.take a, [(k, x, t)], l.drop b] wx hblk rfl (by simp) ?_ (by rw [Hout.out]; omega)).mono fun e w' hh => ?_
    · intro i hi hv
      match i, hi with
      | 0, _ => exact HV1.out _ hbw
      | 1, _ =>
        refine ⟨_, 1, rfl, Nat.le_refl _, by unfold maxLen; omega, fun y hy => ?_, fun _ => ⟨w1.heap.size, 0, rfl, hblk0.lt, fun j hj => ?_⟩⟩
        · simp only [List.getElem_cons_succ, List.getElem_cons_zero, List.mem_singleton] at hy
          subst hy; exact ⟨hkm, hx⟩
        · obtain rfl : j = 0 := by simpa using hj
          exact ⟨hblk0.c0 0 _ rfl, hblk0.c0 1 _ rfl, hblk0.c0 2 _ rfl⟩
      | 2, _ => exact HV2.out _ hbw
    · rw [Hout.out] at hh
      exact hh.lower hbw hbs)
  have Ho := Lib.hid (one_w k W0 hk)
  have Hg0 := Lib.hid hg0
  have HB0 := Lib.hid b0
  clear hb h hs hcut hV1 hV2 hle hlc hcm HV1 HV2 Hout hg0 b0
  go_enter Tryz.func297, Tryz.ntmps297
  go_wp2_with fail
  subst hW0
  refine Ho.out.mono ?_
  rintro e w1 ⟨rfl, hg⟩
  have Hg1 : Hid (Grown w w1) := Lib.hid (Hg0.out.trans hg)
  have HB1 := Lib.hid (HB0.out.below (hg.below (Nat.le_refl _)) HB0.out.lt)
  clear hg Ho HB0 Hg0
  go_wp2_with fail
  refine (Hb.out _ Hg1.out).mono ?_
  rintro e w2 ⟨rfl, hg⟩
  have Hg : Hid (Below w.heap.size w w2) := Lib.hid ((Hg1.out.trans hg).below (Nat.le_refl _))
  have hB2 := HB1.out.below (hg.below (Nat.le_refl _)) HB1.out.lt
  have hlt2 := hB2.lt
  have e0 := hB2.c0 0 _ rfl
  have e1 := hB2.c0 1 _ rfl
  have e2 := hB2.c0 2 _ rfl
  clear hg Hb hB2 HB1 Hg1
  go_wp2_with fail
  go_region_with (go_at_call 302; refine (Hc.out w2 _ _ Hg.out rfl (by exact (show Below w2.heap.size w2 w2.drew from ⟨rfl, rfl, rfl, Nat.le_refl _, fun _ _ => rfl⟩).trans (((Below.refl w2.heap.size w2.drew).alloc (Nat.le_refl _) _).alloc (by simp) _)) (by exact (Blk.new' _ _ _ rfl).alloc _) (by exact Blk.new' _ _ _ (by simp))).mono ?_; intro e w2 h2; have H2 := Lib.hid h2; obtain ⟨v', rfl, -⟩ := h2)
  all_goals
    go_wp2
    go_ret
    exact H2.out

end Go.Proofs.YtmbfghbhajmpiaaGreat
namespace Go.Proofs.YtmbfghbhajmpiaaGreat
open Go.RowKit Go.Sort
set_option linter.unusedVariables false

def pairV (x : Pr) : Value := .agg #[.string (Str x.1), .string (Str x.2.1), .int .i64 x.2.2]
/-- What Find hands back. -/
def findV (l : List Pr) (k : Bs) : Value := match findS k l with
  | some x => .tuple #[.agg #[.string (Str x.1), .string (Str x.2.1), .int .i64 x.2.2], .bool true]
  | none => .tuple #[.agg #[.string (Str []), .string (Str []), .int .i64 0], .bool false]
theorem findV_some {l : List Pr} {k : Bs} {x : Pr} (h : findS k l = some x) : findV l k = .tuple #[.agg #[.string (Str x.1), .string (Str x.2.1), .int .i64 x.2.2], .bool true] := by unfold findV; rw [h]
theorem findV_none {l : List Pr} {k : Bs} (h : findS k l = none) : findV l k = .tuple #[.agg #[.string (Str []), .string (Str []), .int .i64 0], .bool false] := by unfold findV; rw [h]

theorem one_pairs {w : World} (x : Pr) (hx : x.1.length ≤ maxLen ∧ x.2.1.length ≤ maxLen) : IsPairs (w.alloc (.cells #[.string (Str x.1), .string (Str x.2.1), .int .i64 x.2.2] 48)) (.slice (some ⟨w.heap.size, 0, none⟩) 1 1) [x] := by
  refine ⟨_, 1, rfl, Nat.le_refl _, by unfold maxLen; omega, fun y hy => by simp at hy; subst hy; exact hx, fun _ => ⟨w.heap.size, 0, rfl, by simp, fun i hi => ?_⟩⟩
  obtain rfl : i = 0 := by simpa using hi
  have hB : Blk (w.alloc (.cells #[.string (Str x.1), .string (Str x.2.1), .int .i64 x.2.2] 48)) w.heap.size 48 #[.string (Str x.1), .string (Str x.2.1), .int .i64 x.2.2] := Blk.new _ _ _
  exact ⟨hB.c0 0 _ rfl, hB.c0 1 _ rfl, hB.c0 2 _ rfl⟩
/-- The number of a slice's elements. -/
def lenV : Value → Nat
  | .slice _ n _ => n
  | _ => 0
theorem IsPairs.lenV {w : World} {v : Value} {l : List Pr} (h : IsPairs w v l) : lenV v = l.length := by
  obtain ⟨a, cap, rfl, _⟩ := h; rfl
/-- The front of a list that is not empty, and what is behind it. -/
theorem front {w : World} {v : Value} {x : Pr} {r : List Pr} (h : IsPairs w v (x :: r)) : ∃ b off cap p1 m1 c1, v = .slice (some ⟨b, off, none⟩) (r.length + 1) cap ∧ b < w.heap.size ∧ r.length + 1 ≤ cap ∧ (cap : Int) ≤ 9223372036854775807 ∧
    (w.cell? ⟨b, off, none⟩ = some (.string (Str x.1)) ∧ w.cell? ⟨b, off + 1, none⟩ = some (.string (Str x.2.1)) ∧ w.cell? ⟨b, off + 2, none⟩ = some (.int .i64 x.2.2)) ∧
    (∀ w, (Instr.slice 28 (.slice (some ⟨b, off, none⟩) (r.length + 1) cap) (some (.int .i64 1)) none none).run Tryz.prog w = .ok (.slice p1 m1 c1) w) ∧ IsPairs w (.slice p1 m1 c1) r := by
  have h' := h
  obtain ⟨a, cap, rfl, hlc, hcm, hs, hc⟩ := h
  obtain ⟨b, off, rfl, hb, hcell⟩ := hc (by simp)
  have c := hcell 0 (by simp)
  simp only [Nat.zero_mul, Nat.add_zero, List.getElem_cons_zero] at c
  unfold maxLen at hcm
  refine ⟨b, off, cap, (if cap = 1 then some ⟨b, off, none⟩ else (some (⟨b, off, none⟩ : Addr)).map (·.add (1 * 3))), r.length + 1 - 1, cap - 1, rfl, hb, hlc, by omega, c, fun w1 => slice_l _ (r.length + 1) cap 1 (by omega) w1, ?_⟩
  have := h'.sliced 1 (r.length + 1) (by omega) (by simp)
  rwa [show ((x :: r).take (r.length + 1)).drop 1 = r from by simp] at this

set_option maxRecDepth 100000 in
set_option maxHeartbeats 4000000 in
theorem union_w (va vb : Value) (a b : List Pr) (w : World) (ha : IsPairs w va a) (hb : IsPairs w vb b) (sa : Srt a) (sb : Srt b) (la : a.length ≤ 200000000) (lb : b.length ≤ 200000000) :
    Calls Tryz.prog 331 #[va, vb] w (OwnOut w.heap.size w (unionS a b)) := by
  rw [← merge_eq sa sb]
  have hsm : ∀ x ∈ mergeS a b, x.1.length ≤ maxLen ∧ x.2.1.length ≤ maxLen := fun x hx => by
    rcases mem_merge_or a b x hx with h | h
    · exact ha.small x h
    · exact hb.small x h
  have Hsm := Lib.hid hsm
  clear hsm sa sb
  obtain ⟨-, -, capa, pa, hva, hlca, hcma, -⟩ := ha.form
  obtain ⟨-, -, capb, pb, hvb, hlcb, hcmb, -⟩ := hb.form
  have HA := Lib.hid ha
  have HB := Lib.hid hb
  clear ha hb
  unfold maxLen at hcma hcmb
  subst hva hvb
  obtain ⟨i0, hi, hz0, hz1, hz2⟩ := info_parts infoP
  go_enter Tryz.func331, Tryz.ntmps331
  go_wp2
  go_step3
  go_wp2_with (at_make; refine wpList_make_own _ rfl _ _ 28 rfl w.heap.size 48 i0 _ 3 Tryz.underlying28 hi hz0 hz1 .i64 .i64 _ (a.length + b.length) rfl rfl (by simp) (by rw [hz2]; omega) (by unfold maxLen; omega) (Nat.le_refl _) ?_; intro w1 hown hgrow)
  have Hown : Hid (w1.ownsRow w.heap.size 48 3 (.slice (some ⟨w.heap.size, 0, none⟩) 0 (a.length + b.length)) ([] : List Pr).length (([] : List Pr).flatMap encP)) := Lib.hid hown
  have Hbel : Hid (Below w.heap.size w w1) := Lib.hid (Below.grown (Below.refl _ _) hgrow (Nat.le_refl _) (fun q hq => by cases hq))
  clear hown hgrow
  go_step3
  go_wp2
  go_loopw [0, 1, 5] (fun x0 x1 x5 wr => ∃ (left a' b' : List Pr), wr.ownsRow w.heap.size 48 3 x5 left.length (left.flatMap encP) ∧ Below w.heap.size w wr ∧ Hid (left ++ mergeS a' b' = mergeS a b) ∧
    IsPairs w x0 a' ∧ IsPairs w x1 b' ∧ a'.length ≤ a.length ∧ b'.length ≤ b.length ∧ left.length + a'.length + b'.length ≤ a.length + b.length) (fun x0 x1 _ _ => lenV x0 + lenV x1)
  case atStart => exact ⟨[], a, b, Hown.out, Hbel.out, Lib.hid rfl, HA.out, HB.out, Nat.le_refl _, Nat.le_refl _, by simp⟩
  case round =>
    clear Hown Hbel HA HB
    obtain ⟨left, a', b', hown, hbel, hm, ha, hb, hla, hlb, hlt⟩ := hrel
    have Hown := Lib.hid hown
    have Hbel := Lib.hid hbel
    have hsz := hbel.size
    have HA := Lib.hid ha
    have HB := Lib.hid hb
    clear hown hbel
    rcases a' with _ | ⟨x, a'⟩
    · have Hm : Hid (left ++ [] ++ b' = mergeS a b) := Lib.hid (by rw [← hm.out, merge_nil']; simp)
      obtain ⟨-, -, ca, p0, rfl, hl1, hl2, -⟩ := ha.form
      obtain ⟨-, -, cb, p1, rfl, hl3, hl4, -⟩ := hb.form
      unfold maxLen at hl2 hl4
      clear ha hb hm
      go_wp2_with (first
        | (at_builtin; refine append_pairs rfl (.tmp 59) (.tmp 60) rfl w.heap.size _ left rfl Hown.out _ [] rfl (HA.out.below Hbel.out) (by simp only [List.length_nil] at *; omega) hsz ?_; intro v2 w2 hown2 hbel2; have Hown2 := Lib.hid hown2; have Hbel2 := Lib.hid (Hbel.out.trans hbel2); have hsz2 := Hbel2.out.size; clear hown2 hbel2)
        | (at_builtin; refine append_pairs rfl (.tmp 62) (.tmp 63) rfl w.heap.size _ (left ++ []) rfl Hown2.out _ b' rfl (HB.out.below Hbel2.out) (by simp only [List.length_append, List.length_nil] at *; omega) hsz2 ?_; intro v3 w3 hown3 hbel3; have Hown3 := Lib.hid hown3; have Hbel3 := Lib.hid (Hbel2.out.trans hbel3); clear hown3 hbel3))
      rw [Hm.out] at Hown3
      show bodyPost _ _ _ Exit.ret _ _
      go_ret
      exact ⟨_, rfl, Hown3.out, IsPairs.owned Hown3.out Hsm.out, Hbel3.out⟩
    · rcases b' with _ | ⟨y, b'⟩
      · have Hm : Hid (left ++ (x :: a') ++ [] = mergeS a b) := Lib.hid (by rw [← hm.out, merge_nil]; simp)
        obtain ⟨-, -, ca, p0, rfl, hl1, hl2, -⟩ := ha.form
        obtain ⟨-, -, cb, p1, rfl, hl3, hl4, -⟩ := hb.form
        unfold maxLen at hl2 hl4
        have hne : (((x :: a').length : Nat) : Int) ≠ 0 := by simp only [List.length_cons]; omega
        have hnb : ((((x :: a').length : Nat) : Int) == 0) = false := by simpa using hne
        have hxl : 1 ≤ (x :: a').length := by simp
        clear ha hb hm hne
        generalize x :: a' = a2 at *
        go_wp2_with (first
          | (at_builtin; refine append_pairs rfl (.tmp 59) (.tmp 60) rfl w.heap.size _ left rfl Hown.out _ a2 rfl (HA.out.below Hbel.out) (by simp only [List.length_nil] at *; omega) hsz ?_; intro v2 w2 hown2 hbel2; have Hown2 := Lib.hid hown2; have Hbel2 := Lib.hid (Hbel.out.trans hbel2); have hsz2 := Hbel2.out.size; clear hown2 hbel2)
          | (at_builtin; refine append_pairs rfl (.tmp 62) (.tmp 63) rfl w.heap.size _ (left ++ a2) rfl Hown2.out _ [] rfl (HB.out.below Hbel2.out) (by simp only [List.length_append, List.length_nil] at *; omega) hsz2 ?_; intro v3 w3 hown3 hbel3; have Hown3 := Lib.hid hown3; have Hbel3 := Lib.hid (Hbel2.out.trans hbel3); clear hown3 hbel3))
        rw [Hm.out] at Hown3
        show bodyPost _ _ _ Exit.ret _ _
        go_ret
        exact ⟨_, rfl, Hown3.out, IsPairs.owned Hown3.out Hsm.out, Hbel3.out⟩
      · simp only [List.length_cons] at hla hlb hlt
        obtain ⟨ba, oa, ca, p0, m0, c0, rfl, hba, hca, hca2, ⟨x0, x1, x2⟩, sla, hra⟩ := front ha
        obtain ⟨bb, ob, cb, p1, m1, c1, rfl, hbb, hcb, hcb2, ⟨y0, y1, y2⟩, slb, hrb⟩ := front hb
        have x0 := (Hbel.out.cell (p := ⟨ba, oa, none⟩) hba).trans x0
        have x1 := (Hbel.out.cell (p := ⟨ba, oa + 1, none⟩) hba).trans x1
        have x2 := (Hbel.out.cell (p := ⟨ba, oa + 2, none⟩) hba).trans x2
        have y0 := (Hbel.out.cell (p := ⟨bb, ob, none⟩) hbb).trans y0
        have y1 := (Hbel.out.cell (p := ⟨bb, ob + 1, none⟩) hbb).trans y1
        have y2 := (Hbel.out.cell (p := ⟨bb, ob + 2, none⟩) hbb).trans y2
        have Hra := Lib.hid hra
        have Hrb := Lib.hid hrb
        have Hxs := Lib.hid (ha.small x (by simp))
        have Hys := Lib.hid (hb.small y (by simp))
        have Hm0 : Hid (m0 = a'.length) := Lib.hid hra.lenV
        have Hm1 : Hid (m1 = b'.length) := Lib.hid hrb.lenV
        generalize hna : a'.length + 1 = na at *
        generalize hnb : b'.length + 1 = nb at *
        have Hna := Lib.hid hna
        have Hnb := Lib.hid hnb
        have hn1 : ((na : Int) == 0) = false := by simp; omega
        have hn2 : ((nb : Int) == 0) = false := by simp; omega
        have hn3 : (0 : Int) < (na : Int) := by omega
        have hn4 : (0 : Int) < (nb : Int) := by omega
        clear ha hb hra hrb hna hnb
        obtain ⟨xk, xv, xt⟩ := x
        obtain ⟨yk, yv, yt⟩ := y
        simp only at x0 x1 x2 y0 y1 y2
        have mixed := mixedA
        cases h1 : Op.bytesLess xk yk with
        | true =>
          have Hm : Hid ((left ++ [(xk, xv, xt)]) ++ mergeS a' ((yk, yv, yt) :: b') = mergeS a b) := Lib.hid (by rw [← hm.out, mergeS, if_pos h1]; simp)
          go_wp2_with fail
          go_quiet (fail)
          go_wp2_with (at_builtin; refine append_pairs rfl _ _ rfl w.heap.size _ left rfl (World.ownsRow.alloc (owns_below Hown.out (below_drewN _ _)) _) _ [(xk, xv, xt)] rfl (one_pairs (xk, xv, xt) Hxs.out) (by simp only [List.length_cons, List.length_nil]; omega) (by simp; omega) ?_; intro v2 w2 hown2 hbel2)
          have Hown2 := Lib.hid hown2
          have Hbel2 : Hid (Below w.heap.size w w2) := Lib.hid ((((Hbel.out.trans ((below_drewN _ _).mono hsz))).alloc (by simp; omega) _).trans hbel2)
          clear hown2 hbel2
          go_wp2
          go_roundw
          case rel =>
            refine ⟨left ++ [(xk, xv, xt)], a', (yk, yv, yt) :: b', Hown2.out, Hbel2.out, Hm, Hra.out, HB.out, ?_, ?_, ?_⟩
            · have := Hna.out; omega
            · have := Hnb.out; simp only [List.length_cons]; omega
            · have := Hna.out; have := Hnb.out; simp only [List.length_append, List.length_cons, List.length_nil]; omega
          case measure => have := Hm0.out; have := Hna.out; simp only [lenV]; omega
        | false =>
          by_cases h2 : xk = yk
          · have Hm : Hid (left ++ mergeS a' ((yk, yv, yt) :: b') = mergeS a b) := Lib.hid (by rw [← hm.out, mergeS, if_neg (by rw [h1]; simp), if_pos (by simpa using h2)])
            subst h2
            go_wp2_with fail
            go_quiet (fail)
            go_wp2_with fail
            go_quiet (fail)
            go_wp2
            go_roundw
            case rel =>
              refine ⟨left, a', (xk, yv, yt) :: b', owns_below Hown.out (below_drewN _ _), Hbel.out.trans (below_drewN _ _), Hm, Hra.out, HB.out, ?_, ?_, ?_⟩
              · have := Hna.out; omega
              · have := Hnb.out; simp only [List.length_cons]; omega
              · have := Hna.out; have := Hnb.out; simp only [List.length_cons]; omega
            case measure => have := Hm0.out; have := Hna.out; simp only [lenV]; omega
          · have Hm : Hid ((left ++ [(yk, yv, yt)]) ++ mergeS ((xk, xv, xt) :: a') b' = mergeS a b) := Lib.hid (by rw [← hm.out, mergeS, if_neg (by rw [h1]; simp), if_neg (by simpa using h2)]; simp)
            have h2b : (xk == yk) = false := by simpa using h2
            clear h2
            go_wp2_with fail
            go_quiet (fail)
            go_wp2_with fail
            go_quiet (fail)
            go_wp2_with (at_builtin; refine append_pairs rfl _ _ rfl w.heap.size _ left rfl (World.ownsRow.alloc (owns_below Hown.out (below_drewN _ _)) _) _ [(yk, yv, yt)] rfl (one_pairs (yk, yv, yt) Hys.out) (by simp only [List.length_cons, List.length_nil]; omega) (by simp; omega) ?_; intro v2 w2 hown2 hbel2)
            have Hown2 := Lib.hid hown2
            have Hbel2 : Hid (Below w.heap.size w w2) := Lib.hid ((((Hbel.out.trans ((below_drewN _ _).mono hsz))).alloc (by simp; omega) _).trans hbel2)
            clear hown2 hbel2
            go_wp2
            go_roundw
            case rel =>
              refine ⟨left ++ [(yk, yv, yt)], (xk, xv, xt) :: a', b', Hown2.out, Hbel2.out, Hm, HA.out, Hrb.out, ?_, ?_, ?_⟩
              · have := Hna.out; simp only [List.length_cons]; omega
              · have := Hnb.out; omega
              · have := Hna.out; have := Hnb.out; simp only [List.length_append, List.length_cons, List.length_nil]; omega
            case measure => have := Hm1.out; have := Hnb.out; simp only [lenV]; omega

end Go.Proofs.YtmbfghbhajmpiaaGreat
namespace Go.Proofs.YtmbfghbhajmpiaaGreat
open Go.RowKit Go.Sort
set_option linter.unusedVariables false

/-- The first k keys moved. -/
def movF (a b : Bs) (x : Pr) : Pr := (b ++ x.1.drop a.length, x.2)
def movK (a b : Bs) (l : List Pr) (k : Nat) : List Pr := (l.map (movF a b)).take k ++ l.drop k
theorem movK_len (a b : Bs) (l : List Pr) (k : Nat) (h : k ≤ l.length) : (movK a b l k).length = l.length := by
  unfold movK; rw [List.length_append, List.length_take, List.length_drop, List.length_map]; omega
theorem movK_zero (a b : Bs) (l : List Pr) : movK a b l 0 = l := by unfold movK; simp
theorem movK_all (a b : Bs) (l : List Pr) : movK a b l l.length = l.map (movF a b) := by
  unfold movK; rw [List.drop_length, List.take_of_length_le (by simp)]; simp
theorem movK_at (a b : Bs) (l : List Pr) (k : Nat) (h : k < l.length) : (movK a b l k)[k]'(by rw [movK_len a b l k (by omega)]; exact h) = l[k] := by
  unfold movK
  rw [List.getElem_append_right (by rw [List.length_take, List.length_map]; omega)]
  simp [List.getElem_drop]
  congr 1; omega
theorem movK_set (a b : Bs) (l : List Pr) (k : Nat) (h : k < l.length) : (movK a b l k).set k (movF a b l[k]) = movK a b l (k + 1) := by
  unfold movK
  rw [List.set_append_right _ _ (by rw [List.length_take, List.length_map]; omega)]
  have e1 : k - ((l.map (movF a b)).take k).length = 0 := by rw [List.length_take, List.length_map]; omega
  rw [e1, List.drop_eq_getElem_cons h, List.set_cons_zero, List.take_add_one, List.getElem?_map, List.getElem?_eq_getElem h]
  simp
theorem flatP_key (T : List Pr) (i : Nat) (h : i < T.length) (k : Bs) : (T.flatMap encP).set (i * 3) (.string (Str k)) = (T.set i (k, T[i].2)).flatMap encP := by
  induction T generalizing i with
  | nil => simp at h
  | cons t r ih =>
    have e : ∀ (t : Pr) r, (t :: r).flatMap encP = .string (Str t.1) :: .string (Str t.2.1) :: .int .i64 t.2.2 :: r.flatMap encP := fun t r => rfl
    cases i with
    | zero => rw [List.set_cons_zero, e, e]; rfl
    | succ i =>
      rw [List.set_cons_succ, e, e]
      have h2 : (i + 1) * 3 = i * 3 + 1 + 1 + 1 := by omega
      have ih' := ih i (by simpa using h)
      rw [h2]
      simp only [List.set_cons_succ, List.getElem_cons_succ]
      rw [ih']
theorem own_formP {w : World} {base n : Nat} {e : TypeId} {v : Value} {xs : List Value} (h : w.ownsRow base e 3 v n xs) : ∃ p cap, v = .slice p n cap ∧ n ≤ cap ∧ cap ≤ maxLen ∧ (0 < n → ∃ g, p = some ⟨g, 0, none⟩) := by
  rcases h.2 with ⟨rfl, h0⟩ | ⟨g, cap, cur, rfl, _, _, hn, hm, _⟩
  · subst h0; exact ⟨none, 0, rfl, Nat.le_refl _, by unfold maxLen; omega, fun h => absurd h (by omega)⟩
  · exact ⟨_, cap, rfl, hn, hm, fun _ => ⟨g, rfl⟩⟩
theorem own_cellsP {w : World} {base g n cap : Nat} {T : List Pr} (h : w.ownsRow base 48 3 (.slice (some ⟨g, 0, none⟩) n cap) n (T.flatMap encP)) (i : Nat) (hi : i < T.length) :
    w.cell? ⟨g, i * 3, none⟩ = some (.string (Str T[i].1)) ∧ w.cell? ⟨g, i * 3 + 1, none⟩ = some (.string (Str T[i].2.1)) ∧ w.cell? ⟨g, i * 3 + 2, none⟩ = some (.int .i64 T[i].2.2) := by
  have hl := h.1
  rw [flatP_len] at hl
  have f := flatP_get T i hi
  exact ⟨(h.cellAt _ (by omega)).trans f.1, (h.cellAt _ (by omega)).trans f.2.1, (h.cellAt _ (by omega)).trans f.2.2⟩

set_option maxRecDepth 100000 in
set_option maxHeartbeats 4000000 in
theorem tmoved_w (v : Value) (l : List Pr) (a b : Bs) (w : World) (h : IsPairs w v l) (hs : Srt l) (hl : l.length ≤ 500000000) (ha : a.length ≤ 1000000000) (hb : b.length ≤ 1000000000) (hk : ∀ x ∈ l, x.1.length ≤ 1000000000) :
    Calls Tryz.prog 332 #[v, .string (Str a), .string (Str b)] w (OwnOut w.heap.size w (movedT a b l)) := by
  have hr := fun w1 (hg : Below w.heap.size w w1) => range_w v l a (preT a) w1 (h.below hg) hs hl
  have hrl : (rangeS (a, preT a) l).length ≤ l.length := List.length_filter_le _ _
  have hrx : ∀ x ∈ rangeS (a, preT a) l, a.isPrefixOf x.1 = true ∧ x.1.length ≤ 1000000000 ∧ x.2.1.length ≤ maxLen := fun x hx => by
    rw [range_prefix, List.mem_filter] at hx
    exact ⟨hx.2, hk x hx.1, (h.small x hx.1).2⟩
  have hmv : (rangeS (a, preT a) l).map (movF a b) = movedT a b l := by rw [moved_map, range_prefix]; rfl
  generalize rangeS (a, preT a) l = r at *
  have Hsm : Hid (∀ x ∈ movedT a b l, x.1.length ≤ maxLen ∧ x.2.1.length ≤ maxLen) := Lib.hid (by
    rw [← hmv]
    intro x hx
    obtain ⟨y, hy, rfl⟩ := List.mem_map.1 hx
    obtain ⟨-, h1, h2⟩ := hrx y hy
    refine ⟨?_, h2⟩
    unfold movF maxLen
    simp only [List.length_append, List.length_drop]
    omega)
  have Hmv := Lib.hid hmv
  have Hr := Lib.hid hr
  have Hrx := Lib.hid hrx
  have Hp := Lib.hid (prefix_w a w (by omega))
  clear hr hrx hmv h hs hk
  go_enter Tryz.func332, Tryz.ntmps332
  go_wp2_with fail
  refine Hp.out.mono ?_
  rintro e w1 ⟨rfl, hg⟩
  have Hg : Hid (Below w.heap.size w w1) := Lib.hid (hg.below (Nat.le_refl _))
  clear hg Hp
  go_wp2_with fail
  refine (Hr.out _ Hg.out).mono ?_
  rintro e w2 ⟨vr, rfl, hown, -, hb2⟩
  have Hown := Lib.hid (owns_lower hown Hg.out.size)
  have Hb2 : Hid (Below w.heap.size w w2) := Lib.hid (Hg.out.trans (hb2.mono Hg.out.size))
  obtain ⟨p, cap, rfl, hcap1, hcap2, hpp⟩ := own_formP hown
  unfold maxLen at hcap2
  clear hown hb2 Hr Hg
  go_wp2
  go_loopw [16] (fun i wr => ∃ k : Nat, k ≤ r.length ∧ i = .int .i64 k ∧ wr.ownsRow w.heap.size 48 3 (.slice p r.length cap) r.length ((movK a b r k).flatMap encP) ∧ Below w.heap.size w wr) (fun i _ => r.length - (intOf i).toNat)
  case atStart => exact ⟨0, Nat.zero_le _, rfl, by rw [movK_zero]; exact Hown.out, Hb2.out⟩
  case round =>
    obtain ⟨k, hk, rfl, hown, hbel⟩ := hrel
    clear Hown Hb2
    have hsz := hbel.size
    have Hown := Lib.hid hown
    have Hbel := Lib.hid hbel
    clear hbel
    by_cases hlt : k < r.length
    · obtain ⟨g, rfl⟩ := hpp (by omega)
      have hlen := movK_len a b r k (by omega)
      have hkl : k < (movK a b r k).length := by omega
      have hcells := own_cellsP hown k hkl
      rw [movK_at a b r k hlt] at hcells
      have hset := flatP_key (movK a b r k) k hkl (b ++ r[k].1.drop a.length)
      rw [movK_at a b r k hlt] at hset
      have hset2 : ((movK a b r k).flatMap encP).set (k * 3) (.string (Str (b ++ r[k].1.drop a.length))) = (movK a b r (k + 1)).flatMap encP := by
        rw [hset]; exact congrArg _ (movK_set a b r k hlt)
      have Hset := Lib.hid hset2
      have hx := Hrx.out r[k] (List.getElem_mem hlt)
      have hgl := (hown.lt g rfl)
      clear hset hset2 hlen hkl hown
      generalize r[k] = x at *
      obtain ⟨xk, xv, xt⟩ := x
      simp only at hcells hx Hset
      obtain ⟨hx1, hx2, hx3⟩ := hx
      have Hx1 := Lib.hid hx1
      have hgl2 := hgl.2
      have hne : g ≠ wr.heap.size := Nat.ne_of_lt hgl2
      have hltz : (k : Int) < (r.length : Int) := by omega
      obtain ⟨c0, c1, c2⟩ := hcells
      clear hx1 hgl
      go_wp2_with fail
      refine (moved_w xk a b _ (by omega) (by omega)).mono ?_
      rw [movedV_yes Hx1.out]
      rintro e w3 ⟨rfl, hg⟩
      have hbx : Below wr.heap.size wr w3 := (below_box _).trans (hg.below (by simp))
      have hown3 := owns_below Hown.out hbx
      have f0 := hown3.frozenAt (k * 3)
      have hc0 : w3.cell? ⟨g, k * 3, none⟩ = some (.string (Str xk)) := (hbx.cell (p := ⟨g, k * 3, none⟩) hgl2).trans c0
      have hst := hown3.stored (k * 3) (.string (Str (b ++ xk.drop a.length)))
      rw [Hset.out] at hst
      have Hst := Lib.hid hst
      have Hb3 : Hid (Below w.heap.size w w3) := Lib.hid (Hbel.out.trans (hbx.mono hsz))
      have hsz3 := Hb3.out.size
      have hgb := (hown3.lt g rfl).1
      clear hbx hown3 hst c0 c1 c2 hg Hset Hown
      go_wp2
      go_roundw
      case rel => exact ⟨k + 1, by omega, by go_num, Hst.out.1, Below.grown Hb3.out Hst.out.2 hsz3 (fun q hq => by cases hq; exact hgb)⟩
      case measure => simp [intOf]; omega
    · obtain rfl : k = r.length := by omega
      rw [movK_all, Hmv.out] at Hown
      have hll : r.length = (movedT a b l).length := by rw [← Hmv.out, List.length_map]
      have Hll := Lib.hid hll
      clear hll hown
      go_wp2
      go_ret
      have hown := Hown.out
      rw [Hll.out] at hown ⊢
      exact ⟨_, rfl, hown, IsPairs.owned hown Hsm.out, Hbel.out⟩

end Go.Proofs.YtmbfghbhajmpiaaGreat
