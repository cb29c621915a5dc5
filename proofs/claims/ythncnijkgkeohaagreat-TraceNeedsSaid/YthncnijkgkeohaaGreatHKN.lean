/-
  Walks: where the spans of a normal list lie that meet a span or touch it. Walks: slices.Grow, slices.Concat at keys, slices.Clone at a list of spans. Plain facts: a span put into a normal list, and taken out of it, where it meets or touches.
-/
import Derived.Test.YthncnijkgkeohaaGreatHGJ
import Derived.Test.YthncnijkgkeohaaGreatSh4
namespace Go.Proofs.YthncnijkgkeohaaGreat
open Go.RowKit Go.Sort
set_option linter.unusedVariables false

def fromT (s x : Sp) : Bool := x.2.isEmpty || !Op.bytesLess x.2 s.1
def toT (s x : Sp) : Bool := !s.2.isEmpty && Op.bytesLess s.2 x.1
def fromS (d : List Sp) (s : Sp) : Nat := d.countP (fun x => !fromT s x)
def toS (d : List Sp) (s : Sp) : Nat := max (fromS d s) (d.countP (fun x => !toT s x))
theorem fromT_iff (s x : Sp) : fromT s x = true ↔ keyP s.1 ≤ hiP x.2 := by
  unfold fromT
  by_cases h : x.2 = []
  · rw [h, hiP_nil]
    simp
    have := top_max (keyP s.1)
    grind
  · rw [hiP_ne h]
    have e : x.2.isEmpty = false := by simpa using h
    rw [e, Bool.false_or, Bool.not_eq_true']
    exact Iff.rfl
theorem toT_iff (s x : Sp) : toT s x = true ↔ hiP s.2 < keyP x.1 := by
  unfold toT
  by_cases h : s.2 = []
  · rw [h, hiP_nil]
    simp
    have := top_max (keyP x.1)
    grind
  · rw [hiP_ne h]
    have e : s.2.isEmpty = false := by simpa using h
    rw [e, Bool.not_false, Bool.true_and]
    exact Iff.rfl
theorem nrm_pair {d : List Sp} (h : Nrm d) : d.Pairwise (fun x y => hiP x.2 < keyP y.1 ∧ keyP x.1 < hiP x.2 ∧ keyP y.1 < hiP y.2) := by
  induction d with
  | nil => exact .nil
  | cons a r ih => exact .cons (fun t ht => ⟨h.2.1 t ht, (emptyB_no a).1 h.1, (emptyB_no t).1 (h.2.2.ne t ht)⟩) (ih h.2.2)
theorem mono_split {α : Type} (p : α → Bool) {d : List α} (h : d.Pairwise (fun x y => p x = true → p y = true)) :
    (∀ x ∈ d.take (d.countP fun x => !p x), p x = false) ∧ (∀ x ∈ d.drop (d.countP fun x => !p x), p x = true) := by
  induction d with
  | nil => simp
  | cons a r ih =>
    obtain ⟨h1, h2⟩ := List.pairwise_cons.1 h
    obtain ⟨i1, i2⟩ := ih h2
    cases ha : p a with
    | false =>
      rw [List.countP_cons_of_pos (by simp [ha])]
      simp only [List.take_succ_cons, List.drop_succ_cons]
      exact ⟨fun x hx => by rcases List.mem_cons.1 hx with rfl | hx; exact ha; exact i1 x hx, i2⟩
    | true =>
      have e : r.countP (fun x => !p x) = 0 := by rw [List.countP_eq_zero]; intro x hx; simp [h1 x hx ha]
      rw [List.countP_cons_of_neg (by simp [ha]), e]
      refine ⟨by simp, fun x hx => ?_⟩
      rcases List.mem_cons.1 hx with rfl | hx
      · exact ha
      · exact h1 x hx ha
theorem from_pair {d : List Sp} (h : Nrm d) (s : Sp) : d.Pairwise (fun x y => fromT s x = true → fromT s y = true) :=
  (nrm_pair h).imp fun ⟨h1, h2, h3⟩ => by rw [fromT_iff, fromT_iff]; grind
theorem to_pair {d : List Sp} (h : Nrm d) (s : Sp) : d.Pairwise (fun x y => toT s x = true → toT s y = true) :=
  (nrm_pair h).imp fun ⟨h1, h2, h3⟩ => by rw [toT_iff, toT_iff]; grind
theorem mono_at {α : Type} {p : α → Bool} {d : List α} (dflt : α) (h : d.Pairwise (fun x y => p x = true → p y = true)) (i j : Nat) (hij : i ≤ j) (hj : j < d.length) (hi : p (d[i]?.getD dflt) = true) : p (d[j]?.getD dflt) = true := by
  rcases Nat.eq_or_lt_of_le hij with rfl | hlt
  · exact hi
  · have hi' : i < d.length := by omega
    rw [List.getElem?_eq_getElem hi', Option.getD_some] at hi
    rw [List.getElem?_eq_getElem hj, Option.getD_some]
    exact (List.pairwise_iff_getElem.1 h) i j hi' hj hlt hi
theorem range_count {α : Type} (p : α → Bool) (d : List α) (dflt : α) : (List.range d.length).countP (fun i => !p (d[i]?.getD dflt)) = d.countP (fun x => !p x) := by
  have h : d = (List.range d.length).map (fun i => d[i]?.getD dflt) := by
    apply List.ext_getElem
    · simp
    · intro i h1 h2; simp [h1]
  conv => rhs; rw [h]
  rw [List.countP_map]
  rfl

theorem span_cells {w : World} {v : Value} {l : List Sp} (h : IsSpans w v l) (i : Nat) (hi : i < l.length) : ∃ b off cap, v = .slice (some ⟨b, off, none⟩) l.length cap ∧ b < w.heap.size ∧ (l.length : Int) ≤ 9223372036854775807 ∧
    w.cell? ⟨b, off + i * 2, none⟩ = some (.string (Str l[i].1)) ∧ w.cell? ⟨b, off + i * 2 + 1, none⟩ = some (.string (Str l[i].2)) := by
  obtain ⟨a, cap, rfl, h1, h2, h3⟩ := h
  obtain ⟨b, off, rfl, h4, h5⟩ := h3 (by rintro rfl; simp at hi)
  unfold maxLen at h2
  exact ⟨b, off, cap, rfl, h4, by omega, h5 i hi⟩

set_option maxHeartbeats 1000000 in
theorem nearA_w (bt bs : Nat) (v : Value) (l : List Sp) (s : Sp) (i : Nat) (W : World) (hi : i < l.length) (ht : W.cell? ⟨bt, 0, none⟩ = some v) (hs0 : W.cell? ⟨bs, 0, none⟩ = some (.string (Str s.1))) (hp : IsSpans W v l) :
    Calls Tryz.prog 134 (#[.int .i64 i] ++ #[.pointer (some ⟨bt, 0, none⟩), .pointer (some ⟨bs, 0, none⟩)]) W fun e w' => e = .returned (.bool (fromT s (l[i]?.getD ([], [])))) ∧ ∃ q, w' = W.drewN q := by
  obtain ⟨b, off, cap, rfl, hb, hl, c0, c1⟩ := span_cells hp i hi
  rw [List.getElem?_eq_getElem hi, Option.getD_some]
  clear hp
  generalize l[i] = x at *
  have hiz : (i : Int) < (l.length : Int) := by omega
  generalize l.length = n at *
  unfold fromT
  have mixed := mixedA
  cases hx : x.2.isEmpty with
  | true =>
    go_enter Tryz.func134, Tryz.ntmps134
    go_wp2
    go_region
    all_goals go_wp2
    all_goals go_ret
    all_goals exact ⟨by first | rfl | simp, 1, rfl⟩
  | false =>
    go_enter Tryz.func134, Tryz.ntmps134
    go_wp2
    go_region
    all_goals go_wp2
    all_goals go_ret
    all_goals exact ⟨by first | rfl | simp, 1, rfl⟩
set_option maxHeartbeats 1000000 in
theorem nearB_w (bt bs : Nat) (v : Value) (l : List Sp) (s : Sp) (i : Nat) (W : World) (hi : i < l.length) (ht : W.cell? ⟨bt, 0, none⟩ = some v) (hs1 : W.cell? ⟨bs, 1, none⟩ = some (.string (Str s.2))) (hp : IsSpans W v l) :
    Calls Tryz.prog 135 (#[.int .i64 i] ++ #[.pointer (some ⟨bs, 0, none⟩), .pointer (some ⟨bt, 0, none⟩)]) W fun e w' => e = .returned (.bool (toT s (l[i]?.getD ([], [])))) ∧ ∃ q, w' = W.drewN q := by
  obtain ⟨b, off, cap, rfl, hb, hl, c0, c1⟩ := span_cells hp i hi
  rw [List.getElem?_eq_getElem hi, Option.getD_some]
  clear hp
  generalize l[i] = x at *
  have hiz : (i : Int) < (l.length : Int) := by omega
  generalize l.length = n at *
  unfold toT
  have mixed := mixedA
  cases hx : s.2.isEmpty with
  | true =>
    go_enter Tryz.func135, Tryz.ntmps135
    go_wp2
    go_region
    all_goals go_wp2
    all_goals go_ret
    all_goals exact ⟨by first | rfl | simp, 1, rfl⟩
  | false =>
    go_enter Tryz.func135, Tryz.ntmps135
    go_wp2
    go_region
    all_goals go_wp2
    all_goals go_ret
    all_goals exact ⟨by rw [← Bool.not_or, leq_eq, Bool.not_not]; rfl, 1, rfl⟩

set_option maxHeartbeats 2000000 in
theorem near_w (v : Value) (l : List Sp) (s : Sp) (w : World) (h : IsSpans w v l) (hs : Nrm l) (hl : l.length ≤ 1000000000) :
    Calls Tryz.prog 124 #[v, strS s] w fun e w' => e = .returned (.tuple #[.int .i64 (fromS l s : Nat), .int .i64 (toS l s : Nat)]) ∧ Grown w w' := by
  obtain ⟨lo, hi⟩ := s
  simp only [strS]
  have eg : ∀ args w, (callFunc 134 args).run Tryz.prog w = .ok (.enter 134 args) w := enters_of Tryz.func134 (by kernel_rfl) rfl
  have eh : ∀ args w, (callFunc 135 args).run Tryz.prog w = .ok (.enter 135 args) w := enters_of Tryz.func135 (by kernel_rfl) rfl
  obtain ⟨W0, hW0⟩ : ∃ W0, W0 = (w.alloc (.cells #[v] 90)).alloc (.cells #[.string (Str lo), .string (Str hi)] 29) := ⟨_, rfl⟩
  have hg0 : Grown w W0 := by rw [hW0]; exact ((Grown.refl w).alloc _).alloc _
  have b1 : Blk W0 w.heap.size 90 #[v] := by rw [hW0]; exact (Blk.new _ _ _).alloc _
  have b2 : Blk W0 (w.heap.size + 1) 29 #[.string (Str lo), .string (Str hi)] := by rw [hW0]; exact Blk.new' _ _ _ (by simp)
  have hp0 : IsSpans W0 v l := h.below (hg0.below (Nat.le_refl _))
  obtain ⟨a, cap, hv, hlc, hcm, _⟩ := h
  unfold maxLen at hcm
  have hcA := Any.sort_Search Tryz.searchL 134 #[.pointer (some ⟨w.heap.size, 0, none⟩), .pointer (some ⟨w.heap.size + 1, 0, none⟩)] l.length (fun i => fromT (lo, hi) (l[i]?.getD ([], []))) W0 eg (by omega)
    (fun m os i hi' => (nearA_w w.heap.size (w.heap.size + 1) v l (lo, hi) i _ hi' (b1.c 0 _ rfl m os) (b2.c 0 _ rfl m os) (hp0.below (below_grown W0 m os (Nat.le_refl _)))).mono fun e w' ⟨h1, q, h2⟩ => ⟨h1, q, #[], by rw [h2, grow_empty]⟩)
    (fun i j hij hj hi' => mono_at _ (from_pair hs (lo, hi)) i j hij hj hi')
  have hcB := fun m0 os0 => Any.sort_Search Tryz.searchL 135 #[.pointer (some ⟨w.heap.size + 1, 0, none⟩), .pointer (some ⟨w.heap.size, 0, none⟩)] l.length (fun i => toT (lo, hi) (l[i]?.getD ([], []))) (grow (W0.drewN m0) os0) eh (by omega)
    (fun m os i hi' => (nearB_w w.heap.size (w.heap.size + 1) v l (lo, hi) i _ hi' ((b1.grown m0 os0).c 0 _ rfl m os) ((b2.grown m0 os0).c 1 _ rfl m os) ((hp0.below (below_grown W0 m0 os0 (Nat.le_refl _))).below (below_grown _ m os (Nat.le_refl _)))).mono fun e w' ⟨h1, q, h2⟩ => ⟨h1, q, #[], by rw [h2, grow_empty]⟩)
    (fun i j hij hj hi' => mono_at _ (to_pair hs (lo, hi)) i j hij hj hi')
  change Calls Tryz.prog 112 _ _ _ at hcA
  change ∀ m0 os0, Calls Tryz.prog 112 _ _ _ at hcB
  rw [range_count (fromT (lo, hi)) l ([], [])] at hcA
  simp only [range_count (toT (lo, hi)) l ([], [])] at hcB
  have hF : l.countP (fun x => !fromT (lo, hi) x) = fromS l (lo, hi) := rfl
  have hT : toS l (lo, hi) = max (fromS l (lo, hi)) (l.countP (fun x => !toT (lo, hi) x)) := rfl
  rw [hF] at hcA
  rw [hT]
  have Hg0 := Lib.hid hg0
  have HA := Lib.hid hcA
  have HB := Lib.hid hcB
  have hdt : ∀ q os, (grow (W0.drewN q) os).cell? ⟨w.heap.size, 0, none⟩ = some v := b1.c 0 _ rfl
  have HDT := Lib.hid hdt
  have c1 := b1.c0 0 _ rfl
  have hz := Nat.lt_of_lt_of_le (show w.heap.size < w.heap.size + 1 from Nat.lt_succ_self _) (Nat.le_refl _)
  clear hcA hcB hp0 b2 hs eg eh hg0 b1 hF hT hdt
  subst hv
  generalize fromS l (lo, hi) = ra at *
  generalize l.countP (fun x => !toT (lo, hi) x) = rb at *
  go_enter Tryz.func124, Tryz.ntmps124
  go_wp2_with fail
  subst hW0
  refine HA.out.mono ?_
  rintro e w' ⟨rfl, q, os, rfl⟩
  have hdt := HDT.out q os
  go_wp2_with fail
  refine (HB.out q os).mono ?_
  rintro e w' ⟨rfl, q2, os2, rfl⟩
  go_wp2
  go_ret2
  exact ⟨by simp; omega, (Hg0.out.trans ⟨q, os, rfl⟩).trans ⟨q2, os2, rfl⟩⟩

theorem fromS_le (d : List Sp) (s : Sp) : fromS d s ≤ toS d s := Nat.le_max_left _ _
theorem toS_le (d : List Sp) (s : Sp) : toS d s ≤ d.length := Nat.max_le.2 ⟨List.countP_le_length, List.countP_le_length⟩
theorem near_split {d : List Sp} (h : Nrm d) (s : Sp) : (∀ x ∈ d.take (fromS d s), hiP x.2 < keyP s.1) ∧ (∀ x ∈ d.drop (fromS d s), keyP s.1 ≤ hiP x.2) ∧ (∀ x ∈ d.drop (toS d s), hiP s.2 < keyP x.1) ∧ (∀ i (hi : i < d.length), i < toS d s → fromS d s ≤ i → keyP d[i].1 ≤ hiP s.2) := by
  obtain ⟨f1, f2⟩ := mono_split _ (from_pair h s)
  obtain ⟨t1, t2⟩ := mono_split _ (to_pair h s)
  refine ⟨fun x hx => ?_, fun x hx => (fromT_iff s x).1 (f2 x hx), fun x hx => ?_, fun i hi h1 h2 => ?_⟩
  · have := f1 x hx
    rw [← Bool.not_eq_true, fromT_iff] at this
    grind
  · have hsub : d.drop (toS d s) = (d.drop (d.countP fun x => !toT s x)).drop (toS d s - (d.countP fun x => !toT s x)) := by
      rw [List.drop_drop]; congr 1; unfold toS; omega
    rw [hsub] at hx
    exact (toT_iff s x).1 (t2 x (List.mem_of_mem_drop hx))
  · have hlt : i < d.countP fun x => !toT s x := by unfold toS at h1; omega
    have := t1 d[i] (List.mem_iff_getElem.2 ⟨i, by rw [List.length_take]; omega, by simp⟩)
    rw [← Bool.not_eq_true, toT_iff] at this
    grind


end Go.Proofs.YthncnijkgkeohaaGreat
namespace Go.Proofs.YthncnijkgkeohaaGreat
open Go.RowKit Go.Sort
set_option linter.unusedVariables false

/-- A list of spans handed back in memory of the call's own. -/
def OutS (B : Nat) (w : World) (l : List Sp) (e : Ending) (w' : World) : Prop :=
  ∃ v', e = .returned v' ∧ w'.ownsRow B 29 2 v' l.length (l.flatMap encS) ∧ Below B w w'
theorem append_deads {w : World} {ops : Array Oper} {rest : List Oper} {o : Oper} {a : Act} {Q : Exit → Act → World → Prop} (hgd : o.guard = none) (s x : Operand)
    (ho : o.op = .call { callee := .builtin .append, args := #[s, x], argTypes := #[90, 90] }) (base : Nat) (v : Value) (l : List Sp) (hs : a.eval s = v) (hown : w.ownsRow base 29 2 v l.length (l.flatMap encS))
    (u : Value) (m : List Sp) (hx : a.eval x = u) (hp : IsSpans w u m) (hl : l.length + m.length ≤ 1000000000) (hbase : base ≤ w.heap.size)
    (h : ∀ v' w', w'.ownsRow base 29 2 v' (l ++ m).length ((l ++ m).flatMap encS) → Below base w w' → wpList Tryz.prog ops Q rest (a.put o.dst v') w') : wpList Tryz.prog ops Q (o :: rest) a w := by
  obtain ⟨i0, hi, hz0, hz1, hz2⟩ := info_parts infoS
  obtain ⟨p, cap, rfl, hlc, hcm, hpp⟩ := hp
  refine append_gen hgd s x 90 29 i0 (.agg #[.string ⟨#[]⟩, .string ⟨#[]⟩]) 2 32 Tryz.underlying90 hi hz0 hz1 hz2 rfl (by decide) (by decide) ho base v l.length _ hs hown p m.length cap (m.flatMap encS) hx (flatS_len m) ?_ (flatS_one m) hl hbase ?_
  · intro hm
    obtain ⟨b, off, rfl, hlt, hc⟩ := hpp (by rintro rfl; simp at hm)
    refine ⟨_, rfl, cells_at fun j u hj => ?_⟩
    have hj1 : j < m.length * 2 := by rw [← flatS_len]; exact (List.getElem?_eq_some_iff.1 hj).1
    have hi2 : j / 2 < m.length := by omega
    have g := flatS_get m (j / 2) hi2
    have c := hc (j / 2) hi2
    have hcase : j = j / 2 * 2 ∨ j = j / 2 * 2 + 1 := by omega
    rcases hcase with h | h
    · rw [h] at hj ⊢
      rw [g.1] at hj
      rw [← Option.some.inj hj]; exact c.1
    · rw [h] at hj ⊢
      rw [g.2] at hj
      rw [← Option.some.inj hj]; exact c.2
  · intro v' w' h2 h3
    refine h v' w' ?_ h3
    rw [List.length_append, List.flatMap_append]; exact h2
theorem growD_w (n : Nat) (w : World) (hn : n ≤ 1000000000) : Calls Tryz.prog 142 #[.slice none 0 0, .int .i64 n] w (OutS w.heap.size w []) := by
  obtain ⟨i0, hi, hz0, hz1, hz2⟩ := info_parts infoS
  by_cases h0 : n = 0
  · subst h0
    refine (Any8.slices_Grow_room Tryz.growD none 0 0 0 w (Nat.le_refl _) (by omega) (by omega) (by omega)).mono fun e w' ⟨h1, h2⟩ => ?_
    subst h2
    exact ⟨_, h1, World.ownsRow_nil _ _ _ _, Below.refl _ _⟩
  · have hcap := grownCap_ge w (0 + n) 0 29
    have hmax := grownCap_le_maxLen w (0 + n) 0 29 (by unfold maxLen; omega)
    refine (Any8.slices_Grow_grow Tryz.growD i0 _ hi hz0 (by omega) none 0 0 n [] w (Nat.le_refl _) (by omega) (by rw [hz2]; omega) (by omega) (by simp) (fun _ => rfl) (fun a h => by cases h)).mono fun e w' ⟨h1, h2⟩ => ?_
    change w' = w.drew.alloc (.cells _ 29) at h2
    change e = .returned (.slice _ 0 (grownCap w (0 + n) 0 29)) at h1
    have hown : w'.ownsRow w.heap.size 29 2 (.slice (some ⟨w.heap.size, 0, none⟩) 0 (grownCap w (0 + n) 0 29)) ([] : List Sp).length (([] : List Sp).flatMap encS) := by
      subst h2
      refine World.ownsRow_made (base := w.heap.size) w.drew _ _ (Nat.le_refl _) hmax ?_
      simp only [Array.size_append, zero_size]
      have h3 : (Value.agg #[Value.string ⟨#[]⟩, Value.string ⟨#[]⟩]).cells.size = 2 := rfl
      have h4 : (#[] : Array Value).size = 0 := rfl
      rw [h3]
      show 0 + (0 + n - 0) * 2 + (grownCap w (0 + n) 0 29 - (0 + n)) * 2 = grownCap w (0 + n) 0 29 * 2
      omega
    refine ⟨_, h1, hown, ?_⟩
    subst h2
    exact (show Below w.heap.size w w.drew from ⟨rfl, rfl, rfl, Nat.le_refl _, fun _ _ => rfl⟩).trans (show Below w.heap.size w.drew (w.drew.alloc _) from below_box (w := w.drew) _)
/-- The first k lists, joined. -/
def joinD (ls : List (List Sp)) (k : Nat) : List Sp := (ls.take k).flatten
theorem joinD_zero (ls : List (List Sp)) : joinD ls 0 = [] := rfl
theorem joinD_all (ls : List (List Sp)) : joinD ls ls.length = ls.flatten := by unfold joinD; rw [List.take_length]
theorem joinD_take (ls : List (List Sp)) (k : Nat) (h : k < ls.length) : joinD ls (k + 1) = joinD ls k ++ ls[k] := by
  unfold joinD
  rw [List.take_add_one, List.getElem?_eq_getElem h, List.flatten_append]; simp only [Option.toList, List.flatten_cons, List.flatten_nil, List.append_nil]
theorem joinD_le (ls : List (List Sp)) (k : Nat) : (joinD ls k).length ≤ ls.flatten.length := by
  unfold joinD
  conv => rhs; rw [← List.take_append_drop k ls]
  rw [List.flatten_append, List.length_append]; omega

set_option maxRecDepth 100000 in
set_option maxHeartbeats 4000000 in
theorem concatD_w (T : TypeId) (b : Nat) (vs : List Value) (ls : List (List Sp)) (w : World) (hb : Blk w b T vs.toArray) (hlen : vs.length = ls.length) (hlc : ls.length ≤ 1000)
    (h : ∀ i (hi : i < ls.length) (hv : i < vs.length), IsSpans w vs[i] ls[i]) (htot : ls.flatten.length ≤ 1000000000) :
    Calls Tryz.prog 128 #[.slice (some ⟨b, 0, none⟩) ls.length ls.length] w (OutS w.heap.size w ls.flatten) := by
  have hblt := hb.lt
  have HB := Lib.hid hb
  have H := Lib.hid h
  have Hlen := Lib.hid hlen
  have htk := joinD_le ls
  have hall := joinD_all ls
  generalize ls.flatten = all at *
  have Hall := Lib.hid hall
  have Htk := Lib.hid htk
  clear h hb hlen htk hall
  go_enter Tryz.func128, Tryz.ntmps128
  go_wp2
  go_loop [3, 11] (fun s i => ∃ k : Nat, k ≤ ls.length ∧ i = .int .i64 k ∧ s = .int .i64 ((joinD ls k).length : Nat)) (fun _ i => ls.length - (intOf i).toNat)
  case atStart => exact ⟨0, Nat.zero_le _, rfl, rfl⟩
  case round =>
    obtain ⟨k, hk, rfl, rfl⟩ := hrel
    by_cases hlt : k < ls.length
    · have hkv : k < vs.length := by have := Hlen.out; omega
      have hkk := H.out k hlt hkv
      have hc0 := HB.out.c0 k vs[k] (by simp [hkv])
      have hft : Hid ((joinD ls (k + 1)).length = (joinD ls k).length + ls[k].length) := Lib.hid (by rw [joinD_take ls k hlt, List.length_append])
      have hle1 := Htk.out k
      have hle2 := Htk.out (k + 1)
      rw [hft.out] at hle2
      have hltz : (k : Int) < (ls.length : Int) := by omega
      obtain ⟨-, -, capk, pk, hvk, -⟩ := hkk.form
      rw [hvk] at hc0
      clear hkk hvk
      generalize (joinD ls k).length = s at *
      generalize ls[k].length = m at *
      go_wp2
      go_round
      case rel => exact ⟨k + 1, by omega, by go_num, by rw [hft.out]; go_num⟩
      case measure => simp [intOf]; omega
    · obtain rfl : k = ls.length := by omega
      rw [Hall.out]
      go_wp2_with fail
      refine (growD_w all.length w htot).mono ?_
      rintro e w1 ⟨vg, rfl, hown, hbel⟩
      have Hown := Lib.hid hown
      have Hbel := Lib.hid hbel
      clear hown hbel
      go_wp2
      go_loopw [6, 27] (fun s i wr => ∃ k : Nat, k ≤ ls.length ∧ i = .int .i64 k ∧ wr.ownsRow w.heap.size 29 2 s (joinD ls k).length ((joinD ls k).flatMap encS) ∧ Below w.heap.size w wr) (fun _ i _ => ls.length - (intOf i).toNat)
      case atStart => exact ⟨0, Nat.zero_le _, rfl, Hown.out, Hbel.out⟩
      case round =>
        obtain ⟨k, hk, rfl, hown, hbel⟩ := hrel
        have Hown := Lib.hid hown
        have Hbel := Lib.hid hbel
        have hsz := hbel.size
        clear hown hbel
        by_cases hlt : k < ls.length
        · have hkv : k < vs.length := by have := Hlen.out; omega
          have hkk := Lib.hid ((H.out k hlt hkv).below Hbel.out)
          have hc0 := (HB.out.below Hbel.out hblt).c0 k vs[k] (by simp [hkv])
          have hft := Lib.hid (joinD_take ls k hlt)
          have hle2 : (joinD ls k).length + ls[k].length ≤ 1000000000 := by
            have := Htk.out (k + 1); rw [hft.out, List.length_append] at this; omega
          have hltz : (k : Int) < (ls.length : Int) := by omega
          generalize vs[k] = vk at *
          generalize ls[k] = lk at *
          generalize (joinD ls k) = left at *
          go_wp2_with (at_builtin; refine append_deads rfl _ _ rfl w.heap.size _ left rfl Hown.out _ lk rfl hkk.out (by omega) hsz ?_; intro v' w2 hown2 hbel2)
          have Hown2 := Lib.hid hown2
          have Hbel2 := Lib.hid (Hbel.out.trans hbel2)
          clear hown2 hbel2
          go_wp2
          go_roundw
          case rel => exact ⟨k + 1, by omega, by go_num, by rw [hft.out]; exact Hown2.out, Hbel2.out⟩
          case measure => simp [intOf]; omega
        · obtain rfl : k = ls.length := by omega
          rw [Hall.out] at Hown
          go_wp2
          go_ret
          exact ⟨_, rfl, Hown.out, Hbel.out⟩

end Go.Proofs.YthncnijkgkeohaaGreat
namespace Go.Proofs.YthncnijkgkeohaaGreat
open Go.RowKit Go.Sort
set_option linter.unusedVariables false

theorem nrm_iff (l : List Sp) : Nrm l ↔ l.Pairwise (fun x y => hiP x.2 < keyP y.1) ∧ ∀ s ∈ l, emptyB s = false := by
  induction l with
  | nil => simp [Nrm]
  | cons a r ih =>
    rw [Nrm, ih, List.pairwise_cons]
    constructor
    · rintro ⟨h1, h2, h3, h4⟩
      exact ⟨⟨h2, h3⟩, fun s hs => by rcases List.mem_cons.1 hs with rfl | hs; exact h1; exact h4 s hs⟩
    · rintro ⟨⟨h1, h2⟩, h3⟩
      exact ⟨h3 a (by simp), h1, h2, fun s hs => h3 s (by simp [hs])⟩
theorem nrm_low {N L : List Sp} (hN : Nrm N) (hk : ∀ k, InL N k → InL L k) {q : Pt} (h : ∀ y ∈ L, q < keyP y.1) : ∀ x ∈ N, q < keyP x.1 := by
  intro x hx
  obtain ⟨y, hy, h1, h2⟩ := hk x.1 ⟨x, hx, has_lo (hN.ne x hx)⟩
  have := h y hy
  grind
theorem high_key (L : List Sp) (q : Pt) (k : Bs) (hk : keyP k < q) (h : ∀ y ∈ L, hiP y.2 < q) : ∃ k0, keyP k ≤ keyP k0 ∧ keyP k0 < q ∧ ∀ y ∈ L, hiP y.2 ≤ keyP k0 := by
  induction L with
  | nil => exact ⟨k, by grind, hk, by simp⟩
  | cons a r ih =>
    obtain ⟨k0, h1, h2, h3⟩ := ih fun y hy => h y (by simp [hy])
    have ha := h a (by simp)
    by_cases hc : hiP a.2 ≤ keyP k0
    · exact ⟨k0, h1, h2, fun y hy => by rcases List.mem_cons.1 hy with rfl | hy; exact hc; exact h3 y hy⟩
    · have hne : a.2 ≠ [] := by intro e; rw [e, hiP_nil] at ha; exact top_max _ ha
      rw [hiP_ne hne] at hc ha
      refine ⟨a.2, by grind, ha, fun y hy => ?_⟩
      rcases List.mem_cons.1 hy with rfl | hy
      · rw [hiP_ne hne]; grind
      · have := h3 y hy; grind
theorem nrm_high {N L : List Sp} (hN : Nrm N) (hk : ∀ k, InL N k → InL L k) {q : Pt} (h : ∀ y ∈ L, hiP y.2 < q) : ∀ x ∈ N, hiP x.2 < q := by
  intro x hx
  have hlo := has_lo (hN.ne x hx)
  obtain ⟨y, hy, h1, h2⟩ := hk x.1 ⟨x, hx, hlo⟩
  have hq := h y hy
  obtain ⟨k0, k1, k2, k3⟩ := high_key L q x.1 (by grind) h
  by_cases hc : hiP x.2 < q
  · exact hc
  · exfalso
    obtain ⟨z, hz, z1, z2⟩ := hk k0 ⟨x, hx, k1, by grind⟩
    have := k3 z hz
    grind
theorem nrm_glue {A N C : List Sp} (hA : Nrm A) (hN : Nrm N) (hC : Nrm C) (h1 : ∀ a ∈ A, ∀ n ∈ N, hiP a.2 < keyP n.1) (h2 : ∀ n ∈ N, ∀ c ∈ C, hiP n.2 < keyP c.1) (h3 : ∀ a ∈ A, ∀ c ∈ C, hiP a.2 < keyP c.1) : Nrm (A ++ N ++ C) := by
  rw [nrm_iff] at *
  refine ⟨List.pairwise_append.2 ⟨List.pairwise_append.2 ⟨hA.1, hN.1, h1⟩, hC.1, fun x hx c hc => ?_⟩, fun s hs => ?_⟩
  · rcases List.mem_append.1 hx with hx | hx
    · exact h3 x hx c hc
    · exact h2 x hx c hc
  · rcases List.mem_append.1 hs with hs | hs
    · rcases List.mem_append.1 hs with hs | hs
      · exact hA.2 s hs
      · exact hN.2 s hs
    · exact hC.2 s hs

/-- The part of a list that meets a span or touches it. -/
def midS (d : List Sp) (s : Sp) : List Sp := (d.take (toS d s)).drop (fromS d s)
theorem near_parts (d : List Sp) (s : Sp) : d.take (fromS d s) ++ midS d s ++ d.drop (toS d s) = d := by
  unfold midS
  have h1 := fromS_le d s
  have e : d.take (fromS d s) = (d.take (toS d s)).take (fromS d s) := by rw [List.take_take, Nat.min_eq_left h1]
  rw [e, List.take_append_drop, List.take_append_drop]
theorem near_glue {d N : List Sp} (h : Nrm d) (s : Sp) (hN : Nrm N) (hk : ∀ k, InL N k → InL (midS d s ++ [s]) k) : Nrm (d.take (fromS d s) ++ N ++ d.drop (toS d s)) := by
  obtain ⟨n1, n2, n3, n4⟩ := near_split h s
  have hd := near_parts d s
  have hp := (nrm_iff d).1 h
  rw [← hd] at hp
  obtain ⟨hp, he⟩ := hp
  obtain ⟨p1, p2, p3⟩ := List.pairwise_append.1 hp
  obtain ⟨p4, p5, p6⟩ := List.pairwise_append.1 p1
  have nA : Nrm (d.take (fromS d s)) := (nrm_iff _).2 ⟨p4, fun x hx => he x (by simp [hx])⟩
  have nC : Nrm (d.drop (toS d s)) := (nrm_iff _).2 ⟨p2, fun x hx => he x (by simp [hx])⟩
  refine nrm_glue nA hN nC (fun a ha => nrm_low hN hk fun y hy => ?_) (fun n hn c hc => nrm_high hN hk (fun y hy => ?_) n hn) (fun a ha c hc => p3 a (by simp [ha]) c hc)
  · rcases List.mem_append.1 hy with hy | hy
    · exact p6 a ha y hy
    · rw [List.mem_singleton] at hy; subst hy; exact n1 a ha
  · rcases List.mem_append.1 hy with hy | hy
    · exact p3 y (by simp [hy]) c hc
    · rw [List.mem_singleton] at hy; subst hy; exact n3 c hc
/-- A span put in. -/
theorem near_add {d : List Sp} (h : Nrm d) (s : Sp) : d.take (fromS d s) ++ normS (midS d s ++ [s]) ++ d.drop (toS d s) = normS (d ++ [s]) := by
  refine (norm_of (near_glue h s (norm_nrm _) fun k hk => (norm_in _ k).1 hk) fun k => ?_).symm
  have hd := near_parts d s
  conv => rhs; rw [← hd]
  simp only [InL_append, norm_in]
  grind
/-- A span taken out. -/
theorem near_sub {d : List Sp} (h : Nrm d) (s : Sp) : d.take (fromS d s) ++ minusS (midS d s) [s] ++ d.drop (toS d s) = minusS d [s] := by
  obtain ⟨n1, n2, n3, n4⟩ := near_split h s
  refine (minus_of (near_glue h s (minus_nrm _ _) fun k hk => (InL_append _ _ _).2 (.inl ((minus_in _ _ k).1 hk).1)) fun k => ?_).symm
  have hd := near_parts d s
  conv => rhs; rw [← hd]
  simp only [InL_append, minus_in]
  have hs1 : ∀ x, InL [s] x ↔ HasS s x := fun x => by rw [InL_cons]; simp [InL_nil]
  rw [hs1]
  have hA : InL (d.take (fromS d s)) k → ¬ HasS s k := by
    rintro ⟨x, hx, x1, x2⟩ ⟨s1, s2⟩
    have := n1 x hx
    grind
  have hC : InL (d.drop (toS d s)) k → ¬ HasS s k := by
    rintro ⟨x, hx, x1, x2⟩ ⟨s1, s2⟩
    have := n3 x hx
    grind
  grind
/-- A list of spans put in, all of whose keys a span has. -/
theorem near_with {d : List Sp} (h : Nrm d) (s : Sp) (more : List Sp) (hm : ∀ k, InL more k → HasS s k) : d.take (fromS d s) ++ normS (midS d s ++ more) ++ d.drop (toS d s) = normS (d ++ more) := by
  refine (norm_of (near_glue h s (norm_nrm _) fun k hk => ?_) fun k => ?_).symm
  · rw [norm_in, InL_append] at hk
    rw [InL_append, InL_cons]
    exact hk.imp id fun h => .inl (hm k h)
  have hd := near_parts d s
  conv => rhs; rw [← hd]
  simp only [InL_append, norm_in]
  grind

end Go.Proofs.YthncnijkgkeohaaGreat
