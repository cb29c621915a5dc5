/-
  Walks: lists of texts, the parts of a span, pivots, covering in the reference.
-/
import Derived.Test.YtmbfghbhajmpiaaGreatRPA
import Derived.Test.YtmbfghbhajmpiaaGreatCV
import Derived.Test.YtmbfghbhajmpiaaGreatNDX
import Derived.Test.YtmbfghbhajmpiaaGreatNQJ
import Derived.Deep.QuietTactic
import Derived.BigQuiet
import Derived.Laws.AppendOwnNone
namespace Go.Proofs.YtmbfghbhajmpiaaGreat
open Go.RowKit Go.Sort
set_option linter.unusedVariables false
theorem IsStrs.owned {w : World} {base : Nat} {v : Value} {n : Nat} {l : List Bs} (h : w.ownsRow base 9 1 v n (l.map fun s => .string (Str s))) : IsStrs w v l := by
  have hlen := h.1
  rw [List.length_map] at hlen
  obtain rfl : n = l.length := by omega
  rcases h.2 with ⟨rfl, h0⟩ | ⟨g, cap, cur, rfl, hb, hg, hn, hm, hsz, htk⟩
  · have : l = [] := List.length_eq_zero_iff.1 h0
    subst this
    exact ⟨none, 0, rfl, Nat.le_refl _, by unfold maxLen; omega, fun h => absurd rfl h⟩
  · refine ⟨_, cap, rfl, hn, hm, fun _ => ⟨g, 0, rfl, by rw [Array.getElem?_eq_some_iff] at hg; exact hg.1, fun i hi => ?_⟩⟩
    unfold World.cell?
    simp only
    rw [hg]
    show cur[0 + i]? = _
    rw [Nat.zero_add, ← Array.getElem?_toList]
    have : (cur.toList.take (l.length * 1))[i]? = (l.map fun s => Value.string (Str s))[i]? := by rw [htk]
    rw [List.getElem?_take, if_pos (by omega)] at this
    rw [this]; simp [hi]
/-- Keys, as cells. -/
def cellsK (ks : List Bs) : List Value := ks.map fun s => .string (Str s)
theorem append_strs {w : World} {ops : Array Oper} {rest : List Oper} {o : Oper} {a : Act} {Q : Exit → Act → World → Prop} (hgd : o.guard = none) (s x : Operand)
    (ho : o.op = .call { callee := .builtin .append, args := #[s, x], argTypes := #[29, 29] }) (base : Nat) (v : Value) (l : List Bs) (hs : a.eval s = v) (hown : w.ownsRow base 9 1 v l.length (cellsK l))
    (u : Value) (m : List Bs) (hx : a.eval x = u) (hp : IsStrs w u m) (hl : l.length + m.length ≤ 1000000000) (hbase : base ≤ w.heap.size)
    (h : ∀ v' w', w'.ownsRow base 9 1 v' (l ++ m).length (cellsK (l ++ m)) → Below base w w' → wpList Tryz.prog ops Q rest (a.put o.dst v') w') : wpList Tryz.prog ops Q (o :: rest) a w := by
  obtain ⟨i0, hi, hz0, hz1, hz2⟩ := info_parts infoStr
  obtain ⟨p, cap, rfl, hlc, hcm, hpp⟩ := hp
  refine append_gen hgd s x 29 9 i0 (.string ⟨#[]⟩) 1 16 Tryz.underlying29 hi hz0 hz1 hz2 rfl (by decide) (by decide) ho base v l.length _ hs hown p m.length cap (cellsK m) hx (by simp [cellsK]) ?_ ?_ hl hbase ?_
  · intro hm
    obtain ⟨b, off, rfl, hlt, hc⟩ := hpp (by rintro rfl; simp at hm)
    refine ⟨_, rfl, cells_at fun j u hj => ?_⟩
    obtain ⟨hj1, rfl⟩ := List.getElem?_eq_some_iff.1 hj
    have hj2 : j < m.length := by simpa [cellsK] using hj1
    rw [hc j hj2]; simp [cellsK]
  · intro u hu
    simp [cellsK] at hu
    obtain ⟨y, _, rfl⟩ := hu
    rfl
  · intro v' w' h2 h3
    refine h v' w' ?_ h3
    rw [List.length_append]; simpa [cellsK] using h2
theorem coversB_eq (a b : Sp) : coversB a b = (emptyB b || (!emptyB a && (Op.bytesLess a.1 b.1 || a.1 == b.1) && !ltP (hiP a.2) (hiP b.2))) := by
  rw [leq_eq]
  show (emptyB b || (!ltP (keyP b.1) (keyP a.1) && !ltP (hiP a.2) (hiP b.2))) = (emptyB b || (!emptyB a && !ltP (keyP b.1) (keyP a.1) && !ltP (hiP a.2) (hiP b.2)))
  cases hb : emptyB b with
  | true => rfl
  | false =>
    cases ha : emptyB a with
    | false => simp
    | true =>
      cases h1 : ltP (keyP b.1) (keyP a.1) with
      | true => rfl
      | false =>
        cases h2 : ltP (hiP a.2) (hiP b.2) with
        | true => rfl
        | false =>
          exfalso
          have e1 := (emptyB_no b).1 hb
          have e2 := (emptyB_iff a).1 ha
          have e3 := (ltP_false _ _).1 h1
          have e4 := (ltP_false _ _).1 h2
          grind
set_option maxRecDepth 100000 in
set_option maxHeartbeats 4000000 in
theorem rcovers_w (a b : Sp) (w : World) : Calls Tryz.prog 143 #[strS a, strS b] w fun e w' => e = .returned (.bool (coversB a b)) ∧ Grown w w' := by
  have H := Lib.hid (coversB_eq a b)
  obtain ⟨al, ah⟩ := a
  obtain ⟨bl, bh⟩ := b
  simp only [strS]
  have HA : Hid (Blk ((w.alloc (.cells #[.string (Str al), .string (Str ah)] 41)).alloc (.cells #[.string (Str bl), .string (Str bh)] 41)) w.heap.size 41 #[.string (Str al), .string (Str ah)]) := Lib.hid ((Blk.new _ _ _).alloc _)
  have HB : Hid (Blk ((w.alloc (.cells #[.string (Str al), .string (Str ah)] 41)).alloc (.cells #[.string (Str bl), .string (Str bh)] 41)) (w.heap.size + 1) 41 #[.string (Str bl), .string (Str bh)]) := Lib.hid (Blk.new' _ _ _ (by simp))
  have HG : Hid (Grown w ((w.alloc (.cells #[.string (Str al), .string (Str ah)] 41)).alloc (.cells #[.string (Str bl), .string (Str bh)] 41))) := Lib.hid (((Grown.refl w).alloc _).alloc _)
  have he := fun wx => rempty_w bl bh wx
  have ha := fun wx => rempty_w al ah wx
  have hl := fun wx => rless_w ah bh wx
  simp only at H
  cases hE : emptyB (bl, bh) with
  | true =>
    rw [hE] at he H
    go_enter Tryz.func143, Tryz.ntmps143
    go_wp2_with (go_at_call 32; refine (he _).mono ?_; rintro e w1 ⟨rfl, hg⟩; have HG1 := Lib.hid (HG.out.trans hg); clear hg)
    go_ret
    exact ⟨ret_bool (by rw [H.out]; rfl), HG1.out⟩
  | false =>
    rw [hE] at he H
    cases h0 : emptyB (al, ah) <;> cases h1 : Op.bytesLess al bl <;> cases h2 : al == bl <;> cases h3 : ltP (hiP ah) (hiP bh)
    all_goals
      rw [h0, h1, h2, h3] at H
      rw [h0] at ha
      rw [h3] at hl
      clear h0 h3 hE
      go_enter Tryz.func143, Tryz.ntmps143
      go_wp2_with (first
        | (go_at_call_of 32 (Value.agg #[Value.string (Str bl), Value.string (Str bh)]); refine (he _).mono ?_; rintro e w1 ⟨rfl, hg⟩; replace HG := Lib.hid (HG.out.trans hg); replace HA := Lib.hid (Grown.blk hg HA.out); replace HB := Lib.hid (Grown.blk hg HB.out); have a0 : w1.cell? ⟨w.heap.size, 0, none⟩ = some (.string (Str al)) := HA.out.c0 0 _ rfl; have a1 : w1.cell? ⟨w.heap.size, 1, none⟩ = some (.string (Str ah)) := HA.out.c0 1 _ rfl; have b0 : w1.cell? ⟨w.heap.size + 1, 0, none⟩ = some (.string (Str bl)) := HB.out.c0 0 _ rfl; have b1 : w1.cell? ⟨w.heap.size + 1, 1, none⟩ = some (.string (Str bh)) := HB.out.c0 1 _ rfl; clear hg)
        | (go_at_call_of 32 (Value.agg #[Value.string (Str al), Value.string (Str ah)]); refine (ha _).mono ?_; rintro e w1 ⟨rfl, hg⟩; replace HG := Lib.hid (HG.out.trans hg); replace HA := Lib.hid (Grown.blk hg HA.out); replace HB := Lib.hid (Grown.blk hg HB.out); have a0 : w1.cell? ⟨w.heap.size, 0, none⟩ = some (.string (Str al)) := HA.out.c0 0 _ rfl; have a1 : w1.cell? ⟨w.heap.size, 1, none⟩ = some (.string (Str ah)) := HA.out.c0 1 _ rfl; have b0 : w1.cell? ⟨w.heap.size + 1, 0, none⟩ = some (.string (Str bl)) := HB.out.c0 0 _ rfl; have b1 : w1.cell? ⟨w.heap.size + 1, 1, none⟩ = some (.string (Str bh)) := HB.out.c0 1 _ rfl; clear hg)
        | (go_at_call 161; refine (hl _).mono ?_; rintro e w1 ⟨rfl, hg⟩; replace HG := Lib.hid (HG.out.trans hg); clear hg))
      go_ret
      exact ⟨ret_bool (by rw [H.out]; rfl), HG.out⟩
set_option maxRecDepth 100000 in
set_option maxHeartbeats 2000000 in
theorem parts_w (s1 s2 : Bs) (v : Value) (ps : List Bs) (w : World) (h : IsStrs w v ps) (hl : ps.length ≤ 1000) :
    Calls Tryz.prog 89 #[.agg #[.string (Str s1), .string (Str s2)], v] w fun e w' => ∃ v', e = .returned v' ∧ w'.ownsRow w.heap.size 41 2 v' (partsF (s1, s2) [] ps).length ((partsF (s1, s2) [] ps).flatMap encS) ∧ Below w.heap.size w w' := by
  have mixed := mixedA
  obtain ⟨i0, hi, hz0, hz1, hz2⟩ := info_parts infoS
  obtain ⟨g, o, cap, p, rfl, hlc, hcm, hpp, hcc⟩ := h.form
  unfold maxLen at hcm
  have HP := Lib.hid hpp
  have HC := Lib.hid hcc
  clear h hpp hcc
  have HS : Hid (Blk (w.alloc (.cells #[.string (Str s1), .string (Str s2)] 41)) w.heap.size 41 #[.string (Str s1), .string (Str s2)]) := Lib.hid (Blk.new _ _ _)
  go_enter Tryz.func89, Tryz.ntmps89
  go_wp2_with (at_make; refine wpList_make_own _ rfl _ _ 73 rfl (w.heap.size + 1) 41 i0 (.agg #[.string ⟨#[]⟩, .string ⟨#[]⟩]) 2 Tryz.underlying73 hi hz0 hz1 .i64 .i64 _ (ps.length + 1) rfl rfl (by omega) (by rw [hz2]; omega) (by unfold maxLen; omega) (by simp) ?_; intro w0 hown0 hgrow0)
  have HB0 : Hid (Below (w.heap.size + 1) (w.alloc (.cells #[.string (Str s1), .string (Str s2)] 41)) w0) := Lib.hid (Below.grown (Below.refl _ _) hgrow0 (by simp) (fun k hk => by cases hk))
  simp only [World.size_alloc] at hown0
  have Hown0 := Lib.hid hown0
  clear hown0 hgrow0
  go_wp2
  go_loopw [5, 6, 15] (fun v6 sl i wr => ∃ (k : Nat) (left : List Sp) (lo : Bs), k ≤ ps.length ∧ i = .int .i64 k ∧ sl = .string (Str lo) ∧ wr.ownsRow (w.heap.size + 1) 41 2 v6 left.length (left.flatMap encS) ∧ left.length = k ∧
      Below (w.heap.size + 1) (w.alloc (.cells #[.string (Str s1), .string (Str s2)] 41)) wr ∧ Hid (left ++ partsF (s1, s2) lo (ps.drop k) = partsF (s1, s2) [] ps)) (fun _ _ i _ => ps.length - (intOf i).toNat)
  case atStart => exact ⟨0, [], [], Nat.zero_le _, rfl, rfl, Hown0.out, rfl, HB0.out, Lib.hid (by simp)⟩
  case round =>
    obtain ⟨k, left, lo, hk, rfl, rfl, hown, hll, hbel, hp⟩ := hrel
    have Hblk := Lib.hid (Blk.below HS.out hbel (by omega))
    have s0 := Hblk.out.c0 0 _ rfl
    have s1' := Hblk.out.c0 1 _ rfl
    simp only [List.getElem_toArray, List.getElem_cons_zero, List.getElem_cons_succ] at s0 s1'
    have hsz := hbel.size
    simp only [World.size_alloc] at hsz
    have Hown := Lib.hid hown
    have Hbel := Lib.hid hbel
    clear hown hbel
    by_cases hlt : k < ps.length
    · obtain ⟨rfl, c0⟩ := HC.out k hlt
      have hgl := (HP.out (by rintro rfl; simp at hlt)).2
      have c0' : wr.cell? ⟨g, o + k, none⟩ = some (.string (Str ps[k])) := (Hbel.out.cell (p := ⟨g, o + k, none⟩) (by exact Nat.lt_succ_of_lt hgl)).trans ((World.cell?_alloc_lt _ _ _ (by exact hgl)).trans c0)
      have Hd := Lib.hid (List.drop_eq_getElem_cons hlt)
      clear c0
      generalize hq : ps[k] = q at *
      have hm := fun wx => meet_w (s1, s2) (lo, q) wx
      simp only [strS] at hm
      have Hp2 : Hid ((left ++ [meetS (s1, s2) (lo, q)]) ++ partsF (s1, s2) q (ps.drop (k + 1)) = partsF (s1, s2) [] ps) := Lib.hid (by rw [← hp.out, Hd.out, partsF, List.append_assoc]; rfl)
      generalize meetS (s1, s2) (lo, q) = z at *
      clear hq hp Hd
      obtain ⟨z1, z2⟩ := z
      go_wp2_with (first
        | (go_at_call 123; refine (hm _).mono ?_; rintro e w1 ⟨rfl, hg1⟩; have Hg1 := Lib.hid hg1; have hsz1 : wr.heap.size ≤ w1.heap.size := (hg1.below (B := wr.heap.size) (Nat.le_refl _)).size; clear hg1)
        | (at_builtin; refine wpList_append_own _ rfl _ _ 73 rfl (w.heap.size + 1) 41 i0 (.agg #[.string ⟨#[]⟩, .string ⟨#[]⟩]) 2 32 Tryz.underlying73 hi hz0 hz1 hz2 rfl (by decide) _ _ _ rfl ((owns_below Hown.out (Hg1.out.below (Nat.le_refl _))).alloc _) ⟨w1.heap.size, 0, none⟩ 1 1 [.string (Str z1), .string (Str z2)] rfl rfl (cells_new' _ _ _ (by simp)) (by intro u hu; simp at hu; rcases hu with rfl | rfl <;> rfl) (by unfold maxLen; omega) (by omega) (by simp; omega) ?_; intro v' w2 hown' hgrow _))
      have Hown' := Lib.hid hown'
      have Hb2 : Hid (Below (w.heap.size + 1) (w.alloc (.cells #[.string (Str s1), .string (Str s2)] 41)) w2) := Lib.hid (Below.grown ((Below.trans Hbel.out (Hg1.out.below (by omega))).alloc (by omega) _) hgrow (by simp; omega) (fun q hq => (Hown.out.lt q hq).1))
      clear hown' hgrow
      go_wp2
      go_roundw
      case rel => exact ⟨k + 1, left ++ [(z1, z2)], q, by omega, by go_num, rfl, by rw [List.length_append, List.flatMap_append]; exact Hown'.out, by simp; omega, Hb2.out, Hp2⟩
      case measure => simp [intOf]; omega
    · obtain rfl : k = ps.length := by omega
      have hm := fun wx => meet_w (s1, s2) (lo, []) wx
      simp only [strS] at hm
      have Hp2 : Hid (left ++ [meetS (s1, s2) (lo, [])] = partsF (s1, s2) [] ps) := Lib.hid (by rw [← hp.out, List.drop_length]; rfl)
      generalize meetS (s1, s2) (lo, []) = z at *
      clear hp
      obtain ⟨z1, z2⟩ := z
      go_wp2_with (first
        | (go_at_call 123; refine (hm _).mono ?_; rintro e w1 ⟨rfl, hg1⟩; have Hg1 := Lib.hid hg1; have hsz1 : wr.heap.size ≤ w1.heap.size := (hg1.below (B := wr.heap.size) (Nat.le_refl _)).size; clear hg1)
        | (at_builtin; refine wpList_append_own _ rfl _ _ 73 rfl (w.heap.size + 1) 41 i0 (.agg #[.string ⟨#[]⟩, .string ⟨#[]⟩]) 2 32 Tryz.underlying73 hi hz0 hz1 hz2 rfl (by decide) _ _ _ rfl ((owns_below Hown.out (Hg1.out.below (Nat.le_refl _))).alloc _) ⟨w1.heap.size, 0, none⟩ 1 1 [.string (Str z1), .string (Str z2)] rfl rfl (cells_new' _ _ _ (by simp)) (by intro u hu; simp at hu; rcases hu with rfl | rfl <;> rfl) (by unfold maxLen; omega) (by omega) (by simp; omega) ?_; intro v' w2 hown' hgrow _))
      have Hown' := Lib.hid hown'
      have Hb2 : Hid (Below w.heap.size w w2) := Lib.hid (Below.grown ((Below.trans (((Below.refl w.heap.size w).alloc (Nat.le_refl _) _)) ((Below.trans Hbel.out (Hg1.out.below (by omega))).mono (by omega))).alloc (by omega) _) hgrow (by simp; omega) (fun q hq => by have := (Hown.out.lt q hq).1; omega))
      clear hown' hgrow
      go_wp2
      go_ret
      refine ⟨v', rfl, ?_, Hb2.out⟩
      rw [← Hp2.out, List.length_append, List.flatMap_append]
      refine ⟨Hown'.out.1, ?_⟩
      rcases Hown'.out.2 with h | ⟨g, cp, cur, h2, h3, h4⟩
      · exact .inl h
      · exact .inr ⟨g, cp, cur, h2, by omega, h4⟩
theorem one_strs {w : World} {n : Nat} (hn : n = w.heap.size) (s : Bs) : IsStrs (w.alloc (.cells #[.string (Str s)] 9)) (.slice (some ⟨n, 0, none⟩) 1 1) [s] := by
  subst hn
  refine ⟨_, 1, rfl, Nat.le_refl _, by unfold maxLen; omega, fun _ => ⟨w.heap.size, 0, rfl, by simp, fun i hi => ?_⟩⟩
  obtain rfl : i = 0 := by simpa using hi
  have hB : Blk (w.alloc (.cells #[.string (Str s)] 9)) w.heap.size 9 #[.string (Str s)] := Blk.new _ _ _
  exact hB.c0 0 _ rfl
theorem own_drewN {w : World} {base size m : Nat} {e : TypeId} {v : Value} {xs : List Value} (h : w.ownsRow base e size v m xs) (n : Nat) : (w.drewN n).ownsRow base e size v m xs := h
theorem size_box {w : World} {B n : Nat} (o : Obj) (h : B ≤ w.heap.size) : B ≤ ((w.drewN n).alloc o).heap.size := by
  show B ≤ (w.heap.push o).size
  rw [Array.size_push]; exact Nat.le_succ_of_le h
theorem own_emptyK (W : World) (B : Nat) (hB : B ≤ W.heap.size) : (W.alloc (.cells #[] 9)).ownsRow B 9 1 (.slice (some ⟨W.heap.size, 0, none⟩) 0 0) ([] : List Bs).length (cellsK []) :=
  ⟨rfl, .inr ⟨W.heap.size, 0, #[], rfl, hB, Blk.new _ _ _, Nat.le_refl _, by unfold maxLen; omega, rfl, rfl⟩⟩
end Go.Proofs.YtmbfghbhajmpiaaGreat
