/-
  Walks: One, Moved and Prefix of package span. Walks: lists of pairs as slices, as rows of the call's own; appending to them. Walks: places, borders, clones and joined lists of package table. Walks: clones and joined lists of pairs. Walks: joined lists of pairs.
-/
import Derived.Test.YtaafckefeejjpaaGreatZW1
import Derived.Test.YtaafckefeejjpaaGreatPL
import Derived.OwnWalk
import Derived.Laws.AppendOwnNone
import Derived.Laws.OwnMore
import Derived.Test.YtaafckefeejjpaaGreatSh3
import Derived.Deep.LoopGhost
namespace Go.Proofs.YtaafckefeejjpaaGreat
open Go.RowKit Go.Sort
set_option linter.unusedVariables false

set_option maxHeartbeats 1000000 in
theorem one_w (k : Bs) (w : World) (hk : k.length ≤ 140737488355328) : Calls Tryz.prog 168 #[.string (Str k)] w fun e w' => e = .returned (.agg #[.string (Str k), .string (Str (k ++ [0]))]) ∧ Grown w w' := by
  go_enter Tryz.func168, Tryz.ntmps168
  go_wp2
  refine bodyPost_ret (v := .agg #[.string (Str k), .string (Str (k ++ [0]))]) (by simp [results, Tryz.results168, go_sem]; exact Str_add k [0]) rfl ⟨rfl, ?_⟩
  repeat (first | exact Grown.refl _ | refine Grown.setCell ?_ _ _ _ (by simp) | refine Grown.alloc ?_ _)

theorem cut_yes (k a : Bs) (w : World) (h : a.isPrefixOf k = true) : Calls Tryz.prog 205 #[.string (Str k), .string (Str a)] w fun e w' => e = .returned (.tuple #[.string (Str (k.drop a.length)), .bool true]) ∧ w = w' := by
  refine (Tryz.strings_CutPrefix (Str k) (Str a) w).mono fun e w' ⟨he, hw⟩ => ⟨?_, hw.symm⟩
  rw [he]
  show Ending.returned (.tuple #[.string ⟨(Lib.trimPrefix k a).toArray⟩, .bool (Lib.hasPrefix k a)]) = _
  unfold Lib.trimPrefix Lib.hasPrefix
  rw [h]; rfl
theorem cut_no (k a : Bs) (w : World) (h : a.isPrefixOf k = false) : Calls Tryz.prog 205 #[.string (Str k), .string (Str a)] w fun e w' => e = .returned (.tuple #[.string (Str k), .bool false]) ∧ w = w' := by
  refine (Tryz.strings_CutPrefix (Str k) (Str a) w).mono fun e w' ⟨he, hw⟩ => ⟨?_, hw.symm⟩
  rw [he]
  show Ending.returned (.tuple #[.string ⟨(Lib.trimPrefix k a).toArray⟩, .bool (Lib.hasPrefix k a)]) = _
  unfold Lib.trimPrefix Lib.hasPrefix
  rw [h]; rfl

/-- What Moved hands back. -/
def movedV (k a b : Bs) : Value := match movedS k a b with
  | some m => .tuple #[.string (Str m), .bool true]
  | none => .tuple #[.string (Str []), .bool false]
theorem movedV_yes {k a b : Bs} (h : a.isPrefixOf k = true) : movedV k a b = .tuple #[.string (Str (b ++ k.drop a.length)), .bool true] := by unfold movedV movedS; rw [if_pos h]
theorem movedV_no {k a b : Bs} (h : a.isPrefixOf k = false) : movedV k a b = .tuple #[.string (Str []), .bool false] := by unfold movedV movedS; rw [if_neg (by rw [h]; simp)]
set_option maxHeartbeats 1000000 in
theorem moved_w (k a b : Bs) (w : World) (hk : k.length ≤ 140737488355328) (hb : b.length ≤ 140737488355328) :
    Calls Tryz.prog 203 #[.string (Str k), .string (Str a), .string (Str b)] w fun e w' => e = .returned (movedV k a b) ∧ Grown w w' := by
  cases h : a.isPrefixOf k with
  | true =>
    have hc := fun wx => cut_yes k a wx h
    have hl : (k.drop a.length).length ≤ 140737488355328 := by rw [List.length_drop]; omega
    rw [movedV_yes h]
    clear h hk
    generalize k.drop a.length = r at *
    go_enter Tryz.func203, Tryz.ntmps203
    go_wp2_with (go_at_call 205; refine (hc _).mono ?_; rintro e w' ⟨rfl, rfl⟩)
    go_ret2
    refine ⟨?_, Grown.refl _⟩
    show Ending.returned (.tuple #[.string (Str b ++ Str r), .bool true]) = _
    rw [Str_add]
  | false =>
    have hc := fun wx => cut_no k a wx h
    rw [movedV_no h]
    clear h
    go_enter Tryz.func203, Tryz.ntmps203
    go_wp2_with (go_at_call 205; refine (hc _).mono ?_; rintro e w' ⟨rfl, rfl⟩)
    go_ret2
    exact ⟨rfl, Grown.refl _⟩

theorem conv_u8s {n c : Nat} (W : World) (T : TypeId) (xs : List Int) (h : n = W.heap.size) :
    (convert 62 9 (.slice (some ⟨n, 0, none⟩) xs.length c)).run Tryz.prog (W.alloc (.cells (xs.map (Value.int .u8)).toArray T)) =
      .ok (.string (Str (xs.map fun x => UInt8.ofNat x.toNat))) (W.alloc (.cells (xs.map (Value.int .u8)).toArray T)) := by
  subst h
  rw [run_convert_bytes_arg (P := Tryz.prog) _ 62 5 Tryz.underlying62 Tryz.underlying5 W.heap.size 0 xs.length c xs rfl (fun i hi => by
    rw [Nat.zero_add, World.cell?_alloc_new]; simp [hi]) 9 Tryz.underlying9]
  rfl
theorem conv1 {n c : Nat} (W : World) (T : TypeId) (a : Int) (h : n = W.heap.size) :
    (convert 62 9 (.slice (some ⟨n, 0, none⟩) 1 c)).run Tryz.prog (W.alloc (.cells #[.int .u8 a] T)) =
      .ok (.string (Str [UInt8.ofNat a.toNat])) (W.alloc (.cells #[.int .u8 a] T)) := conv_u8s W T [a] h
theorem conv1d {n c : Nat} (W : World) (T : TypeId) (a : Int) (h : n = W.heap.size) :
    (convert 62 9 (.slice (some ⟨n, 0, none⟩) 1 c)).run Tryz.prog ((W.alloc (.cells #[.int .u8 a] T)).drew) =
      .ok (.string (Str [UInt8.ofNat a.toNat])) ((W.alloc (.cells #[.int .u8 a] T)).drew) := conv1 W.drew T a h
attribute [go_sem] conv1 conv1d

theorem drop_full (p : Bs) (i : Nat) (hi : i < p.length) (h : p.drop (i + 1) = List.replicate (p.length - (i + 1)) 255) (hc : p[i] = 255) : p.drop i = List.replicate (p.length - i) 255 := by
  rw [List.drop_eq_getElem_cons hi, h, hc, ← List.replicate_succ]; congr 1; omega
theorem preT_at (p : Bs) (i : Nat) (hi : i < p.length) (h : p.drop (i + 1) = List.replicate (p.length - (i + 1)) 255) (hc : ¬ p[i] = 255) : preT p = p.take i ++ [p[i] + 1] := by
  have : p = p.take i ++ p[i] :: List.replicate (p.length - (i + 1)) 255 := by
    rw [← h, ← List.drop_eq_getElem_cons hi, List.take_append_drop]
  unfold preT
  have h2 := preH_app (p.take i) p[i] (p.length - (i + 1)) hc
  rw [← this] at h2
  rw [h2]; rfl
theorem preT_full (p : Bs) (h : p.drop 0 = List.replicate (p.length - 0) 255) : preT p = [] := by
  unfold preT
  rw [List.drop_zero] at h
  rw [h, preH_full]; rfl
theorem u8_inc (c : UInt8) (h : ¬ c = 255) : UInt8.ofNat (((c.toNat : Int) + 1).toNat) = c + 1 := by
  have h0 : c.toNat ≠ 255 := fun h' => h (UInt8.toNat_inj.1 (by rw [h']; rfl))
  have h1 := c.toNat_lt
  apply UInt8.toNat_inj.1
  rw [UInt8.toNat_ofNat', UInt8.toNat_add]
  have : ((c.toNat : Int) + 1).toNat = c.toNat + 1 := by omega
  rw [this]; rfl

set_option maxRecDepth 100000 in
set_option maxHeartbeats 2000000 in
theorem prefix_w (p : Bs) (w : World) (hp : p.length ≤ 140737488355328) : Calls Tryz.prog 196 #[.string (Str p)] w fun e w' => e = .returned (.agg #[.string (Str p), .string (Str (preT p))]) ∧ Grown w w' := by
  have hsz := size_Str p
  go_enter Tryz.func196, Tryz.ntmps196
  go_wp2
  go_loop [3] (fun i => ∃ k : Nat, k ≤ p.length ∧ i = .int .i64 ((k : Int) - 1) ∧ Hid (p.drop k = List.replicate (p.length - k) 255)) (fun i => (intOf i + 1).toNat)
  case atStart => exact ⟨p.length, Nat.le_refl _, by first | rfl | go_num, Lib.hid (by simp)⟩
  case round =>
    obtain ⟨k, hk, rfl, HD⟩ := hrel
    by_cases hk0 : k = 0
    · subst hk0
      have H := Lib.hid (preT_full p HD.out)
      go_wp2
      refine bodyPost_ret (v := .agg #[.string (Str p), .string (Str [])]) (by simp [results, Tryz.results196, go_sem]; try rfl) rfl ⟨by rw [H.out], ?_⟩
      repeat (first | exact Grown.refl _ | refine Grown.setCell ?_ _ _ _ (by simp) | refine Grown.alloc ?_ _)
    · obtain ⟨j, rfl⟩ : ∃ j, k = j + 1 := ⟨k - 1, by omega⟩
      have hj : j < p.length := by omega
      by_cases hc : p[j] = 255
      · have HD' := Lib.hid (drop_full p j hj HD.out hc)
        have hcn : (p[j].toNat : Int) = 255 := by rw [hc]; rfl
        have hcb : ((p[j].toNat : Int) == 255) = true := by rw [hcn]; rfl
        clear hc hcn
        go_wp2
        go_round
        case rel => exact ⟨j, by omega, by go_num, HD'⟩
        case measure => simp [intOf]
      · have H := Lib.hid (preT_at p j hj HD.out hc)
        have hcn : (p[j].toNat : Int) < 255 := by
          have h0 : p[j].toNat ≠ 255 := fun h' => hc (UInt8.toNat_inj.1 (by rw [h']; rfl))
          have h1 := p[j].toNat_lt
          omega
        have hcb : ((p[j].toNat : Int) == 255) = false := by simp; omega
        have Hi := Lib.hid (u8_inc p[j] hc)
        have hwr : IntKind.u8.wrap ((p[j].toNat : Int) + 1) = (p[j].toNat : Int) + 1 := by simp [IntKind.wrap, IntKind.bits, IntKind.signed]; omega
        clear hc
        go_wp2
        go_region
        all_goals go_wp2
        all_goals
          refine bodyPost_ret (v := .agg #[.string (Str p), .string (Str (p.take j ++ [p[j] + 1]))]) (by simp [results, Tryz.results196, go_sem, Str_add]) rfl ⟨by rw [H.out], ?_⟩
          repeat (first | exact Grown.refl _ | refine Grown.setCell ?_ _ _ _ (by simp) | refine Grown.alloc ?_ _ | refine Grown.draw ?_)

end Go.Proofs.YtaafckefeejjpaaGreat
namespace Go.Proofs.YtaafckefeejjpaaGreat
open Go.RowKit Go.Sort
set_option linter.unusedVariables false

theorem cell_lt {w : World} {b o : Nat} {v : Value} (h : w.cell? ⟨b, o, none⟩ = some v) : b < w.heap.size := by
  unfold World.cell? at h
  simp only at h
  cases hb : w.heap[b]? with
  | none => rw [hb] at h; cases h
  | some x => rw [Array.getElem?_eq_some_iff] at hb; exact hb.1
theorem Grown.keep2 {W W' : World} {b : Nat} {u v : Value} (hg : Grown W W') (h0 : W.cell? ⟨b, 0, none⟩ = some u) (h1 : W.cell? ⟨b, 1, none⟩ = some v) : W'.cell? ⟨b, 0, none⟩ = some u ∧ W'.cell? ⟨b, 1, none⟩ = some v :=
  have hb := hg.below (B := W.heap.size) (Nat.le_refl _)
  ⟨(hb.cell (p := ⟨b, 0, none⟩) (by exact cell_lt h0)).trans h0, (hb.cell (p := ⟨b, 1, none⟩) (by exact cell_lt h1)).trans h1⟩
theorem Grown.keepS {W W' : World} {b : Nat} {u v : Value} (hg : Grown W W') (h : W.cell? ⟨b, 0, none⟩ = some u ∧ W.cell? ⟨b, 1, none⟩ = some v) : W'.cell? ⟨b, 0, none⟩ = some u ∧ W'.cell? ⟨b, 1, none⟩ = some v := Grown.keep2 hg h.1 h.2
theorem Grown.blk {W W' : World} {b : Nat} {T : TypeId} {cs : Array Value} (hg : Grown W W') (h : Blk W b T cs) : Blk W' b T cs := Blk.below h (hg.below (B := W.heap.size) (Nat.le_refl _)) h.lt
/-- What a block of four cells offers to a store. -/
theorem Blk.four {w : World} {b : Nat} {T : TypeId} {x0 x1 x2 x3 : Value} (h : Blk w b T #[x0, x1, x2, x3]) :
    w.cell? ⟨b, 0, none⟩ = some x0 ∧ w.cell? ⟨b, 1, none⟩ = some x1 ∧ w.cell? ⟨b, 2, none⟩ = some x2 ∧ w.cell? ⟨b, 3, none⟩ = some x3 ∧
    w.frozen? ⟨b, 0, none⟩ = false ∧ w.frozen? ⟨b, 1, none⟩ = false ∧ w.frozen? ⟨b, 2, none⟩ = false ∧ w.frozen? ⟨b, 3, none⟩ = false :=
  ⟨h.c0 0 _ rfl, h.c0 1 _ rfl, h.c0 2 _ rfl, h.c0 3 _ rfl, h.free 0, h.free 1, h.free 2, h.free 3⟩
@[reducible] def st4 (w : World) (b : Nat) (y0 y1 y2 y3 : Value) : World := (((w.setCell ⟨b, 0, none⟩ y0).setCell ⟨b, 1, none⟩ y1).setCell ⟨b, 2, none⟩ y2).setCell ⟨b, 3, none⟩ y3
theorem Blk.set4 {w : World} {b : Nat} {T : TypeId} {x0 x1 x2 x3 : Value} (h : Blk w b T #[x0, x1, x2, x3]) (y0 y1 y2 y3 : Value) : Blk (st4 w b y0 y1 y2 y3) b T #[y0, y1, y2, y3] :=
  (((h.setCell 0 y0).setCell 1 y1).setCell 2 y2).setCell 3 y3
theorem Blk.other4 {w : World} {b c : Nat} {T : TypeId} {cs : Array Value} (h : Blk w b T cs) (hne : b ≠ c) (y0 y1 y2 y3 : Value) : Blk (st4 w c y0 y1 y2 y3) b T cs :=
  (((h.setCell_other hne 0 y0).setCell_other hne 1 y1).setCell_other hne 2 y2).setCell_other hne 3 y3
theorem below4 {B : Nat} {w wx : World} (h : Below B w wx) (b : Nat) (hb : B ≤ b) (y0 y1 y2 y3 : Value) : Below B w (st4 wx b y0 y1 y2 y3) :=
  (((h.setCell hb y0).setCell hb y1).setCell hb y2).setCell hb y3
/-- A slice of strings. -/
def IsStrs (w : World) (v : Value) (l : List Bs) : Prop :=
  ∃ a cap, v = .slice a l.length cap ∧ l.length ≤ cap ∧ cap ≤ maxLen ∧ (l ≠ [] → ∃ b off, a = some ⟨b, off, none⟩ ∧ b < w.heap.size ∧
    ∀ i (h : i < l.length), w.cell? ⟨b, off + i, none⟩ = some (.string (Str l[i])))
theorem IsStrs.below {w w' : World} {v : Value} {l : List Bs} (h : IsStrs w v l) (hb : Below w.heap.size w w') : IsStrs w' v l := by
  obtain ⟨a, cap, h1, h2, h3, h4⟩ := h
  refine ⟨a, cap, h1, h2, h3, fun hl => ?_⟩
  obtain ⟨b, off, e, hlt, hc⟩ := h4 hl
  exact ⟨b, off, e, Nat.lt_of_lt_of_le hlt hb.size, fun i hi => by rw [hb.cell (by exact hlt)]; exact hc i hi⟩
theorem IsStrs.form {w : World} {v : Value} {l : List Bs} (h : IsStrs w v l) : ∃ b off cap a, v = .slice a l.length cap ∧ l.length ≤ cap ∧ cap ≤ maxLen ∧ (l ≠ [] → a = some ⟨b, off, none⟩ ∧ b < w.heap.size) ∧
    ∀ i (h : i < l.length), a = some ⟨b, off, none⟩ ∧ w.cell? ⟨b, off + i, none⟩ = some (.string (Str l[i])) := by
  obtain ⟨a, cap, h1, h2, h3, h4⟩ := h
  by_cases hl : l = []
  · subst hl; exact ⟨0, 0, cap, a, h1, h2, h3, fun h => absurd rfl h, fun i hi => absurd hi (by simp)⟩
  · obtain ⟨b, off, e, hlt, hc⟩ := h4 hl
    exact ⟨b, off, cap, a, h1, h2, h3, fun _ => ⟨e, hlt⟩, fun i hi => ⟨e, hc i hi⟩⟩

/-- A slice of pairs. -/
def IsPairs (w : World) (v : Value) (l : List Pr) : Prop :=
  ∃ a cap, v = .slice a l.length cap ∧ l.length ≤ cap ∧ cap ≤ maxLen ∧ (∀ x ∈ l, x.1.length ≤ maxLen ∧ x.2.1.length ≤ maxLen) ∧ (l ≠ [] → ∃ b off, a = some ⟨b, off, none⟩ ∧ b < w.heap.size ∧
    ∀ i (h : i < l.length), w.cell? ⟨b, off + i * 3, none⟩ = some (.string (Str l[i].1)) ∧ w.cell? ⟨b, off + i * 3 + 1, none⟩ = some (.string (Str l[i].2.1)) ∧ w.cell? ⟨b, off + i * 3 + 2, none⟩ = some (.int .i64 l[i].2.2))
theorem IsPairs.below {w w' : World} {v : Value} {l : List Pr} (h : IsPairs w v l) (hb : Below w.heap.size w w') : IsPairs w' v l := by
  obtain ⟨a, cap, h1, h2, h3, h5, h4⟩ := h
  refine ⟨a, cap, h1, h2, h3, h5, fun hl => ?_⟩
  obtain ⟨b, off, e, hlt, hc⟩ := h4 hl
  exact ⟨b, off, e, Nat.lt_of_lt_of_le hlt hb.size, fun i hi => ⟨by rw [hb.cell (by exact hlt)]; exact (hc i hi).1, by rw [hb.cell (by exact hlt)]; exact (hc i hi).2.1, by rw [hb.cell (by exact hlt)]; exact (hc i hi).2.2⟩⟩
theorem IsPairs.form {w : World} {v : Value} {l : List Pr} (h : IsPairs w v l) : ∃ b off cap a, v = .slice a l.length cap ∧ l.length ≤ cap ∧ cap ≤ maxLen ∧ (l ≠ [] → a = some ⟨b, off, none⟩ ∧ b < w.heap.size) ∧
    ∀ i (h : i < l.length), a = some ⟨b, off, none⟩ ∧ w.cell? ⟨b, off + i * 3, none⟩ = some (.string (Str l[i].1)) ∧ w.cell? ⟨b, off + i * 3 + 1, none⟩ = some (.string (Str l[i].2.1)) ∧ w.cell? ⟨b, off + i * 3 + 2, none⟩ = some (.int .i64 l[i].2.2) := by
  obtain ⟨a, cap, h1, h2, h3, h5, h4⟩ := h
  by_cases hl : l = []
  · subst hl; exact ⟨0, 0, cap, a, h1, h2, h3, fun h => absurd rfl h, fun i hi => absurd hi (by simp)⟩
  · obtain ⟨b, off, e, hlt, hc⟩ := h4 hl
    exact ⟨b, off, cap, a, h1, h2, h3, fun _ => ⟨e, hlt⟩, fun i hi => ⟨e, hc i hi⟩⟩
theorem IsPairs.small {w : World} {v : Value} {l : List Pr} (h : IsPairs w v l) : ∀ x ∈ l, x.1.length ≤ maxLen ∧ x.2.1.length ≤ maxLen := by
  obtain ⟨a, cap, h1, h2, h3, h5, h4⟩ := h; exact h5

/-- A pair as cells. -/
def encP (x : Pr) : List Value := [.string (Str x.1), .string (Str x.2.1), .int .i64 x.2.2]
theorem flatP_get (l : List Pr) (i : Nat) (h : i < l.length) : (l.flatMap encP)[i * 3]? = some (.string (Str l[i].1)) ∧ (l.flatMap encP)[i * 3 + 1]? = some (.string (Str l[i].2.1)) ∧ (l.flatMap encP)[i * 3 + 2]? = some (.int .i64 l[i].2.2) := by
  induction l generalizing i with
  | nil => simp at h
  | cons s l ih =>
    have e : (s :: l).flatMap encP = .string (Str s.1) :: .string (Str s.2.1) :: .int .i64 s.2.2 :: l.flatMap encP := rfl
    rw [e]
    cases i with
    | zero => exact ⟨rfl, rfl, rfl⟩
    | succ i =>
      have := ih i (by simpa using h)
      rw [show (i + 1) * 3 = i * 3 + 3 by omega]
      exact this
theorem flatP_len (l : List Pr) : (l.flatMap encP).length = l.length * 3 := by
  induction l with
  | nil => rfl
  | cons s l ih =>
    have e : (s :: l).flatMap encP = .string (Str s.1) :: .string (Str s.2.1) :: .int .i64 s.2.2 :: l.flatMap encP := rfl
    rw [e]; simp [ih]; omega
theorem flatP_one (l : List Pr) : ∀ u ∈ l.flatMap encP, u.oneCell' = true := by
  intro u hu
  obtain ⟨x, _, hx⟩ := List.mem_flatMap.1 hu
  simp [encP] at hx
  rcases hx with rfl | rfl | rfl <;> rfl
/-- What lies behind an address, cell by cell. -/
theorem flatP_of (w : World) (b off : Nat) (l : List Pr) (hc : ∀ i (h : i < l.length), w.cell? ⟨b, off + i * 3, none⟩ = some (.string (Str l[i].1)) ∧ w.cell? ⟨b, off + i * 3 + 1, none⟩ = some (.string (Str l[i].2.1)) ∧ w.cell? ⟨b, off + i * 3 + 2, none⟩ = some (.int .i64 l[i].2.2)) :
    ∀ j u, (l.flatMap encP)[j]? = some u → w.cell? ((⟨b, off, none⟩ : Addr).add j) = some u := by
  intro j u hj
  have hlt : j < l.length * 3 := by
    rw [← flatP_len]
    exact (List.getElem?_eq_some_iff.1 hj).1
  have hadd : (⟨b, off, none⟩ : Addr).add j = ⟨b, off + j, none⟩ := by unfold Addr.add; split <;> simp_all
  rw [hadd]
  have hi : j / 3 < l.length := by omega
  have g := flatP_get l (j / 3) hi
  have c := hc (j / 3) hi
  have hcase : j = j / 3 * 3 ∨ j = j / 3 * 3 + 1 ∨ j = j / 3 * 3 + 2 := by omega
  rcases hcase with h | h | h
  · rw [h] at hj ⊢
    have hd : j / 3 * 3 / 3 = j / 3 := by omega
    rw [g.1] at hj
    rw [← Option.some.inj hj]
    exact c.1
  · rw [h] at hj ⊢
    rw [g.2.1] at hj
    rw [← Option.some.inj hj]
    exact c.2.1
  · rw [h] at hj ⊢
    rw [g.2.2] at hj
    rw [← Option.some.inj hj]
    exact c.2.2

theorem IsPairs.owned {w : World} {base : Nat} {v : Value} {n : Nat} {l : List Pr} (h : w.ownsRow base 91 3 v n (l.flatMap encP)) (hs : ∀ x ∈ l, x.1.length ≤ maxLen ∧ x.2.1.length ≤ maxLen) : IsPairs w v l := by
  have hlen := h.1
  rw [flatP_len] at hlen
  obtain rfl : n = l.length := by omega
  rcases h.2 with ⟨rfl, h0⟩ | ⟨g, cap, cur, rfl, hb, hg, hn, hm, hsz, htk⟩
  · have : l = [] := List.length_eq_zero_iff.1 h0
    subst this
    exact ⟨none, 0, rfl, Nat.le_refl _, by unfold maxLen; omega, hs, fun h => absurd rfl h⟩
  · refine ⟨_, cap, rfl, hn, hm, hs, fun hne => ⟨g, 0, rfl, (Array.getElem?_eq_some_iff.1 hg).1, fun i hi => ?_⟩⟩
    have hc : ∀ j u, (l.flatMap encP)[j]? = some u → w.cell? ⟨g, 0 + j, none⟩ = some u := by
      intro j u hj
      unfold World.cell?
      rw [hg]
      show cur[0 + j]? = _
      have h1 : (cur.toList.take (l.length * 3))[j]? = some u := by rw [htk]; exact hj
      rw [List.getElem?_take] at h1
      split at h1
      · rw [Array.getElem?_toList] at h1; rw [Nat.zero_add]; exact h1
      · cases h1
    have g3 := flatP_get l i hi
    refine ⟨hc _ _ g3.1, ?_, ?_⟩
    · rw [Nat.add_assoc]; exact hc _ _ g3.2.1
    · rw [Nat.add_assoc]; exact hc _ _ g3.2.2

theorem own_empty (W : World) (B : Nat) (hB : B ≤ W.heap.size) : (W.alloc (.cells #[] 91)).ownsRow B 91 3 (.slice (some ⟨W.heap.size, 0, none⟩) 0 0) 0 (([] : List Pr).flatMap encP) :=
  ⟨rfl, .inr ⟨W.heap.size, 0, #[], rfl, hB, Blk.new _ _ _, Nat.le_refl _, by unfold maxLen; omega, rfl, rfl⟩⟩

theorem infoP : (Tryz.prog.info? 91).map (fun i => (i.zero, i.size, i.bytes)) = some (some (.agg #[.string ⟨#[]⟩, .string ⟨#[]⟩, .int .i64 0]), 3, 40) := by kernel_rfl

theorem append_gen {w : World} {ops : Array Oper} {rest : List Oper} {o : Oper} {a : Act} {Q : Exit → Act → World → Prop} (hgd : o.guard = none) (s x : Operand) (t e : TypeId) (i0 : TypeInfo) (z : Value) (size bytes : Nat)
    (ht : Tryz.prog.underlying t = some (.slice e)) (hi : Tryz.prog.info? e = some i0) (hz0 : i0.zero = some z) (hz1 : i0.size = size) (hz2 : i0.bytes = bytes) (hzs : z.cells.size = size) (hsz : 0 < size) (hby : bytes ≤ 100)
    (ho : o.op = .call { callee := .builtin .append, args := #[s, x], argTypes := #[t, t] }) (base : Nat) (v : Value) (n : Nat) (xs : List Value) (hs : a.eval s = v) (hown : w.ownsRow base e size v n xs)
    (p : Option Addr) (m cap : Nat) (news : List Value) (hx : a.eval x = .slice p m cap) (hnl : news.length = m * size) (hp : m ≠ 0 → ∃ ad, p = some ad ∧ ∀ j u, news[j]? = some u → w.cell? (ad.add j) = some u) (h1 : ∀ u ∈ news, u.oneCell' = true)
    (hl : n + m ≤ 100000) (hbase : base ≤ w.heap.size)
    (h : ∀ v' w', w'.ownsRow base e size v' (n + m) (xs ++ news) → Below base w w' → wpList Tryz.prog ops Q rest (a.put o.dst v') w') : wpList Tryz.prog ops Q (o :: rest) a w := by
  have hbytes : (n + m) * bytes ≤ 140737488355328 := Nat.le_trans (Nat.mul_le_mul hl hby) (by decide)
  cases p with
  | none =>
    have hm : m = 0 := by
      rcases Nat.eq_zero_or_pos m with h0 | h0
      · exact h0
      · obtain ⟨ad, h, _⟩ := hp (by omega)
        cases h
    subst hm
    have hn0 : news = [] := List.length_eq_zero_iff.1 (by simpa using hnl)
    subst hn0
    have hh := h v w (by simpa using hown) (Below.refl _ _)
    refine wpList_plain hgd fun K hK => ?_
    have hrun : (Builtin.append_ #[t, t] o.type #[v, .slice none 0 cap]).run Tryz.prog w = .ok v w := by
      rcases hown.2 with ⟨rfl, _⟩ | ⟨g, cap', cur, rfl, _, _, hnc, _⟩
      · simp [Builtin.append_, run_underlying ht, sizeOf, typeInfo, hi, Builtin.lenOf, Builtin.firstCells]
      · simp [Builtin.append_, run_underlying ht, sizeOf, typeInfo, hi, Builtin.lenOf, Builtin.firstCells, hnc, storeCells]
    unfold Oper.wp
    simp [execOp, ho, resolve, invoke, builtin, hs, hx, hrun, Result.andThen]
    exact hK _ _ hh
  | some ad =>
    have hcell : ∀ j u, news[j]? = some u → w.cell? (ad.add j) = some u := by
      by_cases hm : m = 0
      · have hn0 : news = [] := List.length_eq_zero_iff.1 (by rw [hnl, hm]; simp)
        subst hn0
        intro j u hj; simp at hj
      · obtain ⟨ad', e1, hc⟩ := hp hm
        cases e1
        exact hc
    refine wpList_append_own _ hgd s x t ho base e i0 z size bytes ht hi hz0 hz1 hz2 hzs hsz v n xs hs hown ad m cap news hx hnl hcell h1 (by unfold maxLen; omega) hbytes hbase ?_
    intro v' w' h2 h3 _
    exact h v' w' h2 (Below.grown (Below.refl _ _) h3 hbase (fun q hq => (hown.lt q hq).1))

theorem cells_at {w : World} {b off : Nat} {news : List Value} (hc : ∀ j u, news[j]? = some u → w.cell? ⟨b, off + j, none⟩ = some u) : ∀ j u, news[j]? = some u → w.cell? ((⟨b, off, none⟩ : Addr).add j) = some u := by
  intro j u hj
  have hadd : (⟨b, off, none⟩ : Addr).add j = ⟨b, off + j, none⟩ := by unfold Addr.add; split <;> simp_all
  rw [hadd]; exact hc j u hj


theorem append_pairs {w : World} {ops : Array Oper} {rest : List Oper} {o : Oper} {a : Act} {Q : Exit → Act → World → Prop} (hgd : o.guard = none) (s x : Operand)
    (ho : o.op = .call { callee := .builtin .append, args := #[s, x], argTypes := #[38, 38] }) (base : Nat) (v : Value) (l : List Pr) (hs : a.eval s = v) (hown : w.ownsRow base 91 3 v l.length (l.flatMap encP))
    (u : Value) (m : List Pr) (hx : a.eval x = u) (hp : IsPairs w u m) (hl : l.length + m.length ≤ 100000) (hbase : base ≤ w.heap.size)
    (h : ∀ v' w', w'.ownsRow base 91 3 v' (l ++ m).length ((l ++ m).flatMap encP) → Below base w w' → wpList Tryz.prog ops Q rest (a.put o.dst v') w') : wpList Tryz.prog ops Q (o :: rest) a w := by
  obtain ⟨i0, hi, hz0, hz1, hz2⟩ := info_parts infoP
  obtain ⟨p, cap, rfl, hlc, hcm, hsm, hpp⟩ := hp
  refine append_gen hgd s x 38 91 i0 (.agg #[.string ⟨#[]⟩, .string ⟨#[]⟩, .int .i64 0]) 3 40 Tryz.underlying38 hi hz0 hz1 hz2 rfl (by decide) (by decide) ho base v l.length _ hs hown p m.length cap (m.flatMap encP) hx (flatP_len m) ?_ (flatP_one m) hl hbase ?_
  · intro hm
    obtain ⟨b, off, rfl, hlt, hc⟩ := hpp (by rintro rfl; simp at hm)
    exact ⟨_, rfl, flatP_of w b off m hc⟩
  · intro v' w' h2 h3
    refine h v' w' ?_ h3
    rw [List.length_append, List.flatMap_append]; exact h2

theorem IsPairs.nil (w : World) : IsPairs w (.slice none 0 0) [] := ⟨none, 0, rfl, Nat.le_refl _, by unfold maxLen; omega, fun x hx => by simp at hx, fun h => absurd rfl h⟩
theorem below_box {w : World} (o : Obj) : Below w.heap.size w (w.alloc o) := (Below.refl _ _).alloc (Nat.le_refl _) _
theorem owns_below {w w' : World} {base : Nat} {e : TypeId} {size : Nat} {v : Value} {n : Nat} {xs : List Value} (h : w.ownsRow base e size v n xs) (hb : Below w.heap.size w w') : w'.ownsRow base e size v n xs := by
  refine ⟨h.1, ?_⟩
  rcases h.2 with hn | ⟨g, cap, cur, rfl, hg, hgg, rest⟩
  · exact .inl hn
  · refine .inr ⟨g, cap, cur, rfl, hg, ?_, rest⟩
    rw [hb.block g (Array.getElem?_eq_some_iff.1 hgg).1]; exact hgg
theorem owns_lower {w : World} {base B : Nat} {e : TypeId} {size : Nat} {v : Value} {n : Nat} {xs : List Value} (h : w.ownsRow base e size v n xs) (hb : B ≤ base) : w.ownsRow B e size v n xs := by
  refine ⟨h.1, ?_⟩
  rcases h.2 with hn | ⟨g, cap, cur, rfl, hg, rest⟩
  · exact .inl hn
  · exact .inr ⟨g, cap, cur, rfl, by omega, rest⟩

end Go.Proofs.YtaafckefeejjpaaGreat
namespace Go.Proofs.YtaafckefeejjpaaGreat
open Go.RowKit Go.Sort
set_option linter.unusedVariables false

theorem pair_cells {w : World} {v : Value} {l : List Pr} (h : IsPairs w v l) (i : Nat) (hi : i < l.length) : ∃ b off cap, v = .slice (some ⟨b, off, none⟩) l.length cap ∧ b < w.heap.size ∧ (l.length : Int) ≤ 9223372036854775807 ∧
    w.cell? ⟨b, off + i * 3, none⟩ = some (.string (Str l[i].1)) ∧ w.cell? ⟨b, off + i * 3 + 1, none⟩ = some (.string (Str l[i].2.1)) ∧ w.cell? ⟨b, off + i * 3 + 2, none⟩ = some (.int .i64 l[i].2.2) := by
  obtain ⟨b, off, cap, a, rfl, h1, h2, h3, h4⟩ := h.form
  obtain ⟨rfl, c⟩ := h4 i hi
  unfold maxLen at h2
  exact ⟨b, off, cap, rfl, (h3 (by rintro rfl; simp at hi)).2, by omega, c⟩

set_option maxHeartbeats 1000000 in
theorem placeC_w (bt bk : Nat) (v : Value) (l : List Pr) (k : Bs) (i : Nat) (W : World) (hi : i < l.length) (ht : W.cell? ⟨bt, 0, none⟩ = some v) (hk : W.cell? ⟨bk, 0, none⟩ = some (.string (Str k))) (hp : IsPairs W v l) :
    Calls Tryz.prog 173 (#[.int .i64 i] ++ #[.pointer (some ⟨bt, 0, none⟩), .pointer (some ⟨bk, 0, none⟩)]) W fun e w' => e = .returned (.bool (!Op.bytesLess (l[i]?.getD ([], [], 0)).1 k)) ∧ ∃ q, w' = W.drewN q := by
  obtain ⟨b, off, cap, rfl, hb, hl, c0, c1, c2⟩ := pair_cells hp i hi
  rw [List.getElem?_eq_getElem hi, Option.getD_some]
  clear hp
  generalize l[i] = x at *
  have hiz : (i : Int) < (l.length : Int) := by omega
  generalize l.length = n at *
  have mixed := mixedA
  go_enter Tryz.func173, Tryz.ntmps173
  go_wp2
  go_region
  all_goals go_wp2
  all_goals go_ret
  all_goals exact ⟨by first | rfl | simp, 1, rfl⟩

set_option maxHeartbeats 2000000 in
theorem place_w (v : Value) (l : List Pr) (k : Bs) (w : World) (h : IsPairs w v l) (hs : Srt l) (hl : l.length ≤ 100000) :
    Calls Tryz.prog 171 #[v, .string (Str k)] w fun e w' => e = .returned (.int .i64 (placeS l k : Nat)) ∧ Grown w w' := by
  have eg : ∀ args w, (callFunc 173 args).run Tryz.prog w = .ok (.enter 173 args) w := enters_of Tryz.func173 (by kernel_rfl) rfl
  obtain ⟨W0, hW0⟩ : ∃ W0, W0 = (w.alloc (.cells #[v] 38)).alloc (.cells #[.string (Str k)] 9) := ⟨_, rfl⟩
  have hg0 : Grown w W0 := by rw [hW0]; exact ((Grown.refl w).alloc _).alloc _
  have b1 : Blk W0 w.heap.size 38 #[v] := by rw [hW0]; exact (Blk.new _ _ _).alloc _
  have b2 : Blk W0 (w.heap.size + 1) 9 #[.string (Str k)] := by rw [hW0]; exact Blk.new' _ _ _ (by simp)
  have hp0 : IsPairs W0 v l := h.below (hg0.below (Nat.le_refl _))
  obtain ⟨b, off, cap, a, hv, hlc, hcm, _, _⟩ := h.form
  unfold maxLen at hcm
  have hcon := Any.sort_Search Tryz.searchL 173 #[.pointer (some ⟨w.heap.size, 0, none⟩), .pointer (some ⟨w.heap.size + 1, 0, none⟩)] l.length (fun i => !Op.bytesLess (l[i]?.getD ([], [], 0)).1 k) W0 eg (by omega)
    (fun m os i hi => (placeC_w w.heap.size (w.heap.size + 1) v l k i _ hi (b1.c 0 _ rfl m os) (b2.c 0 _ rfl m os) (hp0.below (below_grown W0 m os (Nat.le_refl _)))).mono fun e w' ⟨h1, q, h2⟩ => ⟨h1, q, #[], by rw [h2, grow_empty]⟩)
    (fun i j hij hj hi => by
      have hi' : i < l.length := by omega
      simp only [List.getElem?_eq_getElem hi', List.getElem?_eq_getElem hj, Option.getD_some] at hi ⊢
      exact place_test hs k i j hij hj hi)
  change Calls Tryz.prog 106 _ _ _ at hcon
  rw [place_count] at hcon
  have Hg0 := Lib.hid hg0
  have Hc := Lib.hid hcon
  have c1 := b1.c0 0 _ rfl
  have hz := Nat.lt_of_lt_of_le (show w.heap.size < w.heap.size + 1 from Nat.lt_succ_self _) (Nat.le_refl _)
  clear hcon hp0 b2 hs eg h hg0 b1
  subst hv
  generalize placeS l k = r at *
  go_enter Tryz.func171, Tryz.ntmps171
  go_wp2_with fail
  subst hW0
  refine Hc.out.mono ?_
  rintro e w' ⟨rfl, q, os, rfl⟩
  go_wp2
  go_ret
  exact ⟨rfl, Hg0.out.trans ⟨q, os, rfl⟩⟩

set_option maxRecDepth 100000 in
set_option maxHeartbeats 2000000 in
theorem borders_w (v : Value) (l : List Pr) (lo hi : Bs) (w : World) (h : IsPairs w v l) (hs : Srt l) (hl : l.length ≤ 100000) :
    Calls Tryz.prog 169 #[v, .agg #[.string (Str lo), .string (Str hi)]] w fun e w' => e = .returned (.tuple #[.int .i64 (lowS l (lo, hi) : Nat), .int .i64 (highS l (lo, hi) : Nat)]) ∧ Grown w w' := by
  obtain ⟨W0, hW0⟩ : ∃ W0, W0 = w.alloc (.cells #[.string (Str lo), .string (Str hi)] 45) := ⟨_, rfl⟩
  have hg0 : Grown w W0 := by rw [hW0]; exact (Grown.refl w).alloc _
  have b0 : Blk W0 w.heap.size 45 #[.string (Str lo), .string (Str hi)] := by rw [hW0]; exact Blk.new _ _ _
  have hp0 : IsPairs W0 v l := h.below (hg0.below (Nat.le_refl _))
  have he := fun wx => empty_w lo hi wx
  have hpl := fun k (w1 : World) (hg : Grown W0 w1) => place_w v l k w1 (hp0.below (hg.below (Nat.le_refl _))) hs hl
  have HB0 := Lib.hid b0
  have Hg0 := Lib.hid hg0
  have HL : Hid (lowS l (lo, hi) = if emptyB (lo, hi) then 0 else placeS l lo) := Lib.hid rfl
  have HH : Hid (highS l (lo, hi) = if emptyB (lo, hi) then 0 else if hi = [] then l.length else placeS l hi) := Lib.hid rfl
  obtain ⟨b, off, cap, a, rfl, hlc, hcm, _, _⟩ := h.form
  unfold maxLen at hcm
  have Hpl := Lib.hid hpl
  clear hpl hp0 h hs hg0 b0
  generalize lowS l (lo, hi) = ls at *
  generalize highS l (lo, hi) = us at *
  have mixed := mixedA
  cases hem : emptyB (lo, hi) with
  | true =>
    rw [hem] at HL HH he
    simp only [↓reduceIte] at HL HH
    have Hem := Lib.hid he
    clear he hem
    go_enter Tryz.func169, Tryz.ntmps169
    go_wp2_with fail
    subst hW0
    refine (Hem.out _).mono ?_
    rintro e w1 ⟨rfl, hg⟩
    have Hg := Lib.hid hg
    clear hg
    go_wp2
    go_ret2
    exact ⟨by rw [HL.out, HH.out]; rfl, Hg0.out.trans Hg.out⟩
  | false =>
    rw [hem] at HL HH he
    simp only [Bool.false_eq_true, ↓reduceIte] at HL HH
    have Hem := Lib.hid he
    clear he hem
    by_cases hh : hi = []
    · rw [if_pos hh] at HH
      subst hh
      go_enter Tryz.func169, Tryz.ntmps169
      go_wp2_with fail
      subst hW0
      refine (Hem.out _).mono ?_
      rintro e w1 ⟨rfl, hg⟩
      have hB := HB0.out.below (hg.below (Nat.le_refl _)) HB0.out.lt
      have c0 := hB.c0 0 _ rfl
      have c1 := hB.c0 1 _ rfl
      have Hg := Lib.hid hg
      clear hg hB
      go_wp2_with fail
      refine (Hpl.out lo _ Hg.out).mono ?_
      rintro e w2 ⟨rfl, hg⟩
      have Hg2 := Lib.hid hg
      clear hg
      go_wp2
      go_ret2
      exact ⟨by rw [HL.out, HH.out]; try rfl, (Hg0.out.trans Hg.out).trans Hg2.out⟩
    · rw [if_neg hh] at HH
      have hne : hi.isEmpty = false := by simpa using hh
      clear hh
      go_enter Tryz.func169, Tryz.ntmps169
      go_wp2_with fail
      subst hW0
      refine (Hem.out _).mono ?_
      rintro e w1 ⟨rfl, hg⟩
      have hB := HB0.out.below (hg.below (Nat.le_refl _)) HB0.out.lt
      have c0 := hB.c0 0 _ rfl
      have c1 := hB.c0 1 _ rfl
      have d0 := hB.c 0 _ rfl
      have d1 := hB.c 1 _ rfl
      have Hg := Lib.hid hg
      clear hg hB
      go_wp2_with fail
      go_quiet_grown (first
        | (go_at_call_of 171 (Value.string (Str lo)); refine calls_grown (Hpl.out lo _ (Hg.out.trans ⟨_, _, rfl⟩)))
        | (go_at_call 171; refine calls_grown (Hpl.out hi _ (Hg.out.trans ⟨_, _, rfl⟩))))
      go_wp2
      go_ret2
      exact ⟨by rw [HL.out, HH.out]; try rfl, (Hg0.out.trans Hg.out).trans ⟨_, _, rfl⟩⟩

end Go.Proofs.YtaafckefeejjpaaGreat
namespace Go.Proofs.YtaafckefeejjpaaGreat
open Go.RowKit Go.Sort
set_option linter.unusedVariables false

/-- A list of pairs handed back in memory of the call's own. -/
def OwnOut (B : Nat) (w : World) (l : List Pr) (e : Ending) (w' : World) : Prop :=
  ∃ v', e = .returned v' ∧ w'.ownsRow B 91 3 v' l.length (l.flatMap encP) ∧ IsPairs w' v' l ∧ Below B w w'
theorem IsPairs.sliced {w : World} {a : Option Addr} {n cap : Nat} {l : List Pr} (h : IsPairs w (.slice a n cap) l) (lo hi : Nat) (h1 : lo ≤ hi) (h2 : hi ≤ l.length) :
    IsPairs w (sliced a lo hi cap 3) ((l.take hi).drop lo) := by
  obtain ⟨a', cap', e, hlc, hcm, hs, hc⟩ := h
  cases e
  have hll : ((l.take hi).drop lo).length = hi - lo := by rw [List.length_drop, List.length_take]; omega
  refine ⟨_, cap - lo, by rw [hll]; rfl, by omega, by omega, fun x hx => hs x (List.mem_of_mem_take (List.mem_of_mem_drop hx)), fun hne => ?_⟩
  have hlt : lo < hi := by
    rcases Nat.lt_or_ge lo hi with h | h
    · exact h
    · exfalso; apply hne; apply List.length_eq_zero_iff.1; omega
  obtain ⟨b, off, rfl, hb, hcell⟩ := hc (by rintro rfl; simp at h2; omega)
  have hadd : (⟨b, off, none⟩ : Addr).add (lo * 3) = ⟨b, off + lo * 3, none⟩ := by unfold Addr.add; split <;> simp_all
  refine ⟨b, off + lo * 3, by rw [if_neg (by omega)]; simp [hadd], hb, fun i hi' => ?_⟩
  have hc3 := hcell (lo + i) (by rw [hll] at hi'; omega)
  have e3 : off + lo * 3 + i * 3 = off + (lo + i) * 3 := by omega
  rw [e3]
  simpa using hc3
theorem sizeP : (sizeOf (Tryz.prog.elem 38)) = sizeOf 91 := by
  rw [show Tryz.prog.elem 38 = 91 by kernel_rfl]
theorem elemP : Tryz.prog.underlying 38 = some (.slice (Tryz.prog.elem 38)) := by
  rw [show Tryz.prog.elem 38 = 91 by kernel_rfl]; exact Tryz.underlying38
theorem slice_lh (a : Option Addr) (n cap lo hi : Nat) (h1 : lo ≤ hi) (h2 : hi ≤ cap) (w : World) : (Instr.slice 38 (.slice a n cap) (some (.int .i64 lo)) (some (.int .i64 hi)) none).run Tryz.prog w = .ok (sliced a lo hi cap 3) w := by
  rw [run_slice_lh w 38 a n cap elemP .i64 .i64 lo hi (by omega) (by omega) (by omega), sizeP, Tryz.sizeOf91]; rfl
theorem slice_h (a : Option Addr) (n cap hi : Nat) (h2 : hi ≤ cap) (w : World) : (Instr.slice 38 (.slice a n cap) none (some (.int .i64 hi)) none).run Tryz.prog w = .ok (sliced a 0 hi cap 3) w := by
  rw [run_slice_h w 38 a n cap elemP .i64 hi (by omega) (by omega), sizeP, Tryz.sizeOf91]; rfl
theorem slice_l (a : Option Addr) (n cap lo : Nat) (h2 : lo ≤ n) (w : World) : (Instr.slice 38 (.slice a n cap) (some (.int .i64 lo)) none none).run Tryz.prog w = .ok (sliced a lo n cap 3) w := by
  rw [run_slice_l w 38 a n cap elemP .i64 lo (by omega) (by omega), sizeP, Tryz.sizeOf91]; rfl

set_option maxHeartbeats 2000000 in
theorem clone_w (v : Value) (l : List Pr) (w : World) (h : IsPairs w v l) (hl : l.length ≤ 100000) :
    Calls Tryz.prog 65 #[v] w (OwnOut w.heap.size w l) := by
  obtain ⟨a, cap, hv, _, _, hs, hc⟩ := id h
  have H := Lib.hid h
  have HS := Lib.hid hs
  clear h hs
  subst hv
  cases a with
  | none =>
    have hn : l = [] := by
      rcases l with _ | ⟨x, r⟩
      · rfl
      · obtain ⟨b, off, e, _⟩ := hc (by simp); cases e
    subst hn
    clear hc
    have q26 : ∀ (w : World) (a : Option Addr) (n c n' c' : Nat), (binOp .eql 38 (.slice a n c) (.slice none n' c')).run Tryz.prog w = .ok (.bool a.isNone) w := fun w a n c n' c' => Lib.run_eql_slice_nil w _ _ a n c n' c' Tryz.underlying38
    go_enter Tryz.func65, Tryz.ntmps65
    go_wp2
    go_ret
    exact ⟨_, rfl, World.ownsRow_nil _ _ _ _, IsPairs.nil _, Below.refl _ _⟩
  | some ad =>
    clear hc
    have q26 : ∀ (w : World) (a : Option Addr) (n c n' c' : Nat), (binOp .eql 38 (.slice a n c) (.slice none n' c')).run Tryz.prog w = .ok (.bool a.isNone) w := fun w a n c n' c' => Lib.run_eql_slice_nil w _ _ a n c n' c' Tryz.underlying38
    go_enter Tryz.func65, Tryz.ntmps65
    go_wp2_with (at_builtin; refine append_pairs rfl _ _ rfl w.heap.size _ [] rfl (own_empty w w.heap.size (Nat.le_refl _)) _ l rfl (H.out.below (below_box _)) (by simp; omega) (by simp) ?_; intro v' w1 hown hbel)
    have Hown := Lib.hid hown
    have Hbel : Hid (Below w.heap.size w w1) := Lib.hid ((below_box _).trans hbel)
    clear hown hbel
    go_wp2
    go_ret
    exact ⟨_, rfl, Hown.out, IsPairs.owned Hown.out HS.out, Hbel.out⟩

theorem zero_size (z : Array Value) (n : Nat) : (Builtin.zeroCells z n).size = n * z.size := by simp [Builtin.zeroCells]
theorem grow_w (n : Nat) (w : World) (hn : n ≤ 100000) : Calls Tryz.prog 172 #[.slice none 0 0, .int .i64 n] w (OwnOut w.heap.size w []) := by
  obtain ⟨i0, hi, hz0, hz1, hz2⟩ := info_parts infoP
  by_cases h0 : n = 0
  · subst h0
    refine (Any8.slices_Grow_room Tryz.growL none 0 0 0 w (Nat.le_refl _) (by omega) (by omega) (by omega)).mono fun e w' ⟨h1, h2⟩ => ?_
    subst h2
    exact ⟨_, h1, World.ownsRow_nil _ _ _ _, IsPairs.nil _, Below.refl _ _⟩
  · have hcap := grownCap_ge w (0 + n) 0 91
    have hmax := grownCap_le_maxLen w (0 + n) 0 91 (by unfold maxLen; omega)
    refine (Any8.slices_Grow_grow Tryz.growL i0 _ hi hz0 (by omega) none 0 0 n [] w (Nat.le_refl _) (by omega) (by rw [hz2]; omega) (by omega) (by simp) (fun _ => rfl) (fun a h => by cases h)).mono fun e w' ⟨h1, h2⟩ => ?_
    change w' = w.drew.alloc (.cells _ 91) at h2
    change e = .returned (.slice _ 0 (grownCap w (0 + n) 0 91)) at h1
    have hown : w'.ownsRow w.heap.size 91 3 (.slice (some ⟨w.heap.size, 0, none⟩) 0 (grownCap w (0 + n) 0 91)) ([] : List Pr).length (([] : List Pr).flatMap encP) := by
      subst h2
      refine World.ownsRow_made (base := w.heap.size) w.drew _ _ (Nat.le_refl _) hmax ?_
      simp only [Array.size_append, zero_size]
      have h3 : (Value.agg #[Value.string ⟨#[]⟩, Value.string ⟨#[]⟩, Value.int .i64 0]).cells.size = 3 := rfl
      have h4 : (#[] : Array Value).size = 0 := rfl
      rw [h3]
      show 0 + (0 + n - 0) * 3 + (grownCap w (0 + n) 0 91 - (0 + n)) * 3 = grownCap w (0 + n) 0 91 * 3
      omega
    refine ⟨_, h1, hown, IsPairs.owned hown (fun x hx => by simp at hx), ?_⟩
    subst h2
    exact (show Below w.heap.size w w.drew from ⟨rfl, rfl, rfl, Nat.le_refl _, fun _ _ => rfl⟩).trans (show Below w.heap.size w.drew (w.drew.alloc _) from below_box (w := w.drew) _)

end Go.Proofs.YtaafckefeejjpaaGreat
namespace Go.Proofs.YtaafckefeejjpaaGreat
open Go.RowKit Go.Sort
set_option linter.unusedVariables false

/-- The first k lists, joined. -/
def joinK (ls : List (List Pr)) (k : Nat) : List Pr := (ls.take k).flatten
theorem join_zero (ls : List (List Pr)) : joinK ls 0 = [] := rfl
theorem join_all (ls : List (List Pr)) : joinK ls ls.length = ls.flatten := by unfold joinK; rw [List.take_length]
theorem join_take (ls : List (List Pr)) (k : Nat) (h : k < ls.length) : joinK ls (k + 1) = joinK ls k ++ ls[k] := by
  unfold joinK
  rw [List.take_add_one, List.getElem?_eq_getElem h, List.flatten_append]; simp only [Option.toList, List.flatten_cons, List.flatten_nil, List.append_nil]
theorem join_le (ls : List (List Pr)) (k : Nat) : (joinK ls k).length ≤ ls.flatten.length := by
  unfold joinK
  conv => rhs; rw [← List.take_append_drop k ls]
  rw [List.flatten_append, List.length_append]; omega

set_option maxRecDepth 100000 in
set_option maxHeartbeats 4000000 in
theorem concat_w (b : Nat) (vs : List Value) (ls : List (List Pr)) (w : World) (hb : Blk w b 38 vs.toArray) (hlen : vs.length = ls.length) (hlc : ls.length ≤ 1000)
    (h : ∀ i (hi : i < ls.length) (hv : i < vs.length), IsPairs w vs[i] ls[i]) (htot : ls.flatten.length ≤ 100000) :
    Calls Tryz.prog 170 #[.slice (some ⟨b, 0, none⟩) ls.length ls.length] w (OwnOut w.heap.size w ls.flatten) := by
  have Hsm : Hid (∀ x ∈ ls.flatten, x.1.length ≤ maxLen ∧ x.2.1.length ≤ maxLen) := Lib.hid (by
    intro x hx
    obtain ⟨l, hl, hx⟩ := List.mem_flatten.1 hx
    obtain ⟨i, hi, rfl⟩ := List.mem_iff_getElem.1 hl
    exact (h i hi (by omega)).small x hx)
  have hblt := hb.lt
  have HB := Lib.hid hb
  have H := Lib.hid h
  have Hlen := Lib.hid hlen
  have htk := join_le ls
  have hall := join_all ls
  generalize ls.flatten = all at *
  have Hall := Lib.hid hall
  have Htk := Lib.hid htk
  clear h hb hlen htk hall
  go_enter Tryz.func170, Tryz.ntmps170
  go_wp2
  go_loop [3, 11] (fun s i => ∃ k : Nat, k ≤ ls.length ∧ i = .int .i64 k ∧ s = .int .i64 ((joinK ls k).length : Nat)) (fun _ i => ls.length - (intOf i).toNat)
  case atStart => exact ⟨0, Nat.zero_le _, rfl, rfl⟩
  case round =>
    obtain ⟨k, hk, rfl, rfl⟩ := hrel
    by_cases hlt : k < ls.length
    · have hkv : k < vs.length := by have := Hlen.out; omega
      have hkk := H.out k hlt hkv
      have hc0 := HB.out.c0 k vs[k] (by simp [hkv])
      have hft : Hid ((joinK ls (k + 1)).length = (joinK ls k).length + ls[k].length) := Lib.hid (by rw [join_take ls k hlt, List.length_append])
      have hle1 := Htk.out k
      have hle2 := Htk.out (k + 1)
      rw [hft.out] at hle2
      have hltz : (k : Int) < (ls.length : Int) := by omega
      obtain ⟨-, -, capk, pk, hvk, -⟩ := hkk.form
      rw [hvk] at hc0
      clear hkk hvk
      generalize (joinK ls k).length = s at *
      generalize ls[k].length = m at *
      go_wp2
      go_round
      case rel => exact ⟨k + 1, by omega, by go_num, by rw [hft.out]; go_num⟩
      case measure => simp [intOf]; omega
    · obtain rfl : k = ls.length := by omega
      rw [Hall.out]
      go_wp2_with fail
      refine (grow_w all.length w htot).mono ?_
      rintro e w1 ⟨vg, rfl, hown, _, hbel⟩
      have Hown := Lib.hid hown
      have Hbel := Lib.hid hbel
      clear hown hbel
      go_wp2
      go_loopw [6, 27] (fun s i wr => ∃ k : Nat, k ≤ ls.length ∧ i = .int .i64 k ∧ wr.ownsRow w.heap.size 91 3 s (joinK ls k).length ((joinK ls k).flatMap encP) ∧ Below w.heap.size w wr) (fun _ i _ => ls.length - (intOf i).toNat)
      case atStart => exact ⟨0, Nat.zero_le _, rfl, Hown.out, Hbel.out⟩
      case round =>
        obtain ⟨k, hk, rfl, hown, hbel⟩ := hrel
        have Hown := Lib.hid hown
        have Hbel := Lib.hid hbel
        have hsz := hbel.size
        clear hown hbel
        by_cases hlt : k < ls.length
        · have hkv : k < vs.length := by have := Hlen.out; omega
          have hkk := Lib.hid ((H.out k hlt hkv).below Hbel.out)
          have hc0 := (HB.out.below Hbel.out hblt).c0 k vs[k] (by simp [hkv])
          have hft := Lib.hid (join_take ls k hlt)
          have hle2 : (joinK ls k).length + ls[k].length ≤ 100000 := by
            have := Htk.out (k + 1); rw [hft.out, List.length_append] at this; omega
          have hltz : (k : Int) < (ls.length : Int) := by omega
          generalize vs[k] = vk at *
          generalize ls[k] = lk at *
          generalize (joinK ls k) = left at *
          go_wp2_with (at_builtin; refine append_pairs rfl _ _ rfl w.heap.size _ left rfl Hown.out _ lk rfl hkk.out (by omega) hsz ?_; intro v' w2 hown2 hbel2)
          have Hown2 := Lib.hid hown2
          have Hbel2 := Lib.hid (Hbel.out.trans hbel2)
          clear hown2 hbel2
          go_wp2
          go_roundw
          case rel => exact ⟨k + 1, by omega, by go_num, by rw [hft.out]; exact Hown2.out, Hbel2.out⟩
          case measure => simp [intOf]; omega
        · obtain rfl : k = ls.length := by omega
          rw [Hall.out] at Hown
          go_wp2
          go_ret
          exact ⟨_, rfl, Hown.out, IsPairs.owned Hown.out Hsm.out, Hbel.out⟩

end Go.Proofs.YtaafckefeejjpaaGreat
