/-
  Walks: lists of spans; what has a key. Walks: where spans meet, the program's and the reference's; the reference's Empty, Less, Moved, Prefix.
-/
import Derived.Test.YthpajecigkfajaaTX
import Derived.Test.YthpajecigkfajaaPL
import Derived.Laws.StructEq
namespace Go.Proofs.Ythpajecigkfajaa
open Go.RowKit Go.Sort
set_option linter.unusedVariables false

/-- A slice of spans. -/
def IsSpans (w : World) (v : Value) (l : List Sp) : Prop :=
  ∃ a cap, v = .slice a l.length cap ∧ l.length ≤ cap ∧ cap ≤ maxLen ∧ (l ≠ [] → ∃ b off, a = some ⟨b, off, none⟩ ∧ b < w.heap.size ∧
    ∀ i (h : i < l.length), w.cell? ⟨b, off + i * 2, none⟩ = some (.string (Str l[i].1)) ∧ w.cell? ⟨b, off + i * 2 + 1, none⟩ = some (.string (Str l[i].2)))
theorem IsSpans.below {w w' : World} {v : Value} {l : List Sp} (h : IsSpans w v l) (hb : Below w.heap.size w w') : IsSpans w' v l := by
  obtain ⟨a, cap, h1, h2, h3, h4⟩ := h
  refine ⟨a, cap, h1, h2, h3, fun hl => ?_⟩
  obtain ⟨b, off, e, hlt, hc⟩ := h4 hl
  exact ⟨b, off, e, Nat.lt_of_lt_of_le hlt hb.size, fun i hi => ⟨by rw [hb.cell (by exact hlt)]; exact (hc i hi).1, by rw [hb.cell (by exact hlt)]; exact (hc i hi).2⟩⟩
theorem IsSpans.form {w : World} {v : Value} {l : List Sp} (h : IsSpans w v l) : ∃ b off cap a, v = .slice a l.length cap ∧ l.length ≤ cap ∧ cap ≤ maxLen ∧ (l ≠ [] → a = some ⟨b, off, none⟩ ∧ b < w.heap.size) ∧
    ∀ i (h : i < l.length), a = some ⟨b, off, none⟩ ∧ w.cell? ⟨b, off + i * 2, none⟩ = some (.string (Str l[i].1)) ∧ w.cell? ⟨b, off + i * 2 + 1, none⟩ = some (.string (Str l[i].2)) := by
  obtain ⟨a, cap, h1, h2, h3, h4⟩ := h
  by_cases hl : l = []
  · subst hl; exact ⟨0, 0, cap, a, h1, h2, h3, fun h => absurd rfl h, fun i hi => absurd hi (by simp)⟩
  · obtain ⟨b, off, e, hlt, hc⟩ := h4 hl
    exact ⟨b, off, cap, a, h1, h2, h3, fun _ => ⟨e, hlt⟩, fun i hi => ⟨e, hc i hi⟩⟩
/-- Flat cells. -/
theorem flatS_get (l : List Sp) (i : Nat) (h : i < l.length) : (l.flatMap encS)[i * 2]? = some (.string (Str l[i].1)) ∧ (l.flatMap encS)[i * 2 + 1]? = some (.string (Str l[i].2)) := by
  induction l generalizing i with
  | nil => simp at h
  | cons s l ih =>
    have e : (s :: l).flatMap encS = .string (Str s.1) :: .string (Str s.2) :: l.flatMap encS := rfl
    rw [e]
    cases i with
    | zero => exact ⟨rfl, rfl⟩
    | succ i =>
      have := ih i (by simpa using h)
      rw [show (i + 1) * 2 = i * 2 + 2 by omega]
      exact this
theorem flatS_len (l : List Sp) : (l.flatMap encS).length = l.length * 2 := by
  induction l with
  | nil => rfl
  | cons s l ih =>
    have e : (s :: l).flatMap encS = .string (Str s.1) :: .string (Str s.2) :: l.flatMap encS := rfl
    rw [e]; simp [ih]; omega
theorem IsSpans.owned {w : World} {base : Nat} {v : Value} {n : Nat} {l : List Sp} (h : w.ownsRow base 57 2 v n (l.flatMap encS)) : IsSpans w v l := by
  have hlen := h.1
  rw [flatS_len] at hlen
  obtain rfl : n = l.length := by omega
  rcases h.2 with ⟨rfl, h0⟩ | ⟨g, cap, cur, rfl, hb, hg, hn, hm, hsz, htk⟩
  · have : l = [] := List.length_eq_zero_iff.1 h0
    subst this
    exact ⟨none, 0, rfl, Nat.le_refl _, by unfold maxLen; omega, fun h => absurd rfl h⟩
  · refine ⟨_, cap, rfl, hn, hm, fun _ => ⟨g, 0, rfl, by rw [Array.getElem?_eq_some_iff] at hg; exact hg.1, fun i hi => ?_⟩⟩
    have hc : ∀ j, j < l.length * 2 → w.cell? ⟨g, j, none⟩ = (l.flatMap encS)[j]? := by
      intro j hj
      unfold World.cell?
      rw [hg, ← htk, List.getElem?_take, if_pos hj, Array.getElem?_toList]
      rfl
    have hi2 := flatS_get l i hi
    exact ⟨by rw [Nat.zero_add, hc _ (by omega)]; exact hi2.1, by rw [Nat.zero_add, hc _ (by omega)]; exact hi2.2⟩
set_option maxHeartbeats 1000000 in
theorem rone_w (k : Bs) (w : World) (hk : k.length ≤ 140737488355328) : Calls Try.prog 37 #[.string (Str k)] w fun e w' => e = .returned (.agg #[.string (Str k), .string (Str (k ++ [0]))]) ∧ Grown w w' := by
  go_enter Try.func37, Try.ntmps37
  go_wp2
  refine bodyPost_ret (v := .agg #[.string (Str k), .string (Str (k ++ [0]))]) (by simp [results, Try.results37, go_sem]; exact Str_add k [0]) rfl ⟨rfl, ?_⟩
  repeat (first | exact Grown.refl _ | refine Grown.setCell ?_ _ _ _ (by simp) | refine Grown.alloc ?_ _)
theorem eql_span (a b c d : Bs) (w : World) : (binOp .eql 57 (.agg #[.string (Str a), .string (Str b)]) (.agg #[.string (Str c), .string (Str d)])).run Try.prog w = .ok (.bool (a == c && b == d)) w := by
  have hS : Try.prog.underlying 57 = some (.struct (Try.prog.fieldsOf 57)) := by kernel_rfl
  have hp : Try.prog.stoodInHeld 57 = false := by kernel_rfl
  have u := Try.underlying9
  have ag := Try.isAgg9
  have sz := Try.sizeOf9
  rw [run_eql_struct, show (10000 : Nat) = 9999 + 1 from rfl, run_equalIn_agg w 9999 57 _ _ hS hp]
  simp only [Program.fieldsOf, Try.underlying57]
  go_simp
  by_cases h1 : a = c <;> by_cases h2 : b = d <;> simp [h1, h2]
theorem neq_span (a b c d : Bs) (w : World) : (binOp .neq 57 (.agg #[.string (Str a), .string (Str b)]) (.agg #[.string (Str c), .string (Str d)])).run Try.prog w = .ok (.bool (!(a == c && b == d))) w := by
  have hS : Try.prog.underlying 57 = some (.struct (Try.prog.fieldsOf 57)) := by kernel_rfl
  have hp : Try.prog.stoodInHeld 57 = false := by kernel_rfl
  have u := Try.underlying9
  have ag := Try.isAgg9
  have sz := Try.sizeOf9
  rw [run_neq_struct, show (10000 : Nat) = 9999 + 1 from rfl, run_equalIn_agg w 9999 57 _ _ hS hp]
  simp only [Program.fieldsOf, Try.underlying57]
  go_simp
  by_cases h1 : a = c <;> by_cases h2 : b = d <;> simp [h1, h2]
theorem guard_span (op : BinOp) (x y : Operand) (xs ys : Array Value) (w : World) : (eqGuard op 57 x y (.agg xs) (.agg ys)).run Try.prog w = .ok () w := run_eqGuard_agg w op 57 x y xs ys (by kernel_rfl)
attribute [go_sem high] eql_span neq_span guard_span
theorem begins_eq (k p : Bs) (h : p.length ≤ k.length) : p.isPrefixOf k = (k.take p.length == p) := by
  rw [Bool.eq_iff_iff, List.isPrefixOf_iff_prefix, List.prefix_iff_eq_take, beq_iff_eq]
  exact eq_comm
theorem begins_short (k p : Bs) (h : k.length < p.length) : p.isPrefixOf k = false := by
  rw [Bool.eq_false_iff]
  intro h2
  have := (List.isPrefixOf_iff_prefix.1 h2).length_le
  omega
set_option maxHeartbeats 1000000 in
theorem begins_w (k p : Bs) (w : World) (hk : k.length ≤ 140737488355328) (hp : p.length ≤ 140737488355328) : Calls Try.prog 38 #[.string (Str k), .string (Str p)] w fun e w' => e = .returned (.bool (p.isPrefixOf k)) ∧ Grown w w' := by
  by_cases h : p.length ≤ k.length
  · have H := Lib.hid (begins_eq k p h)
    have hz : (p.length : Int) ≤ (k.length : Int) := by omega
    go_enter Try.func38, Try.ntmps38
    go_wp2
    go_ret
    exact ⟨ret_bool H.out.symm, Grown.refl _⟩
  · have H := Lib.hid (begins_short k p (by omega))
    have hz : (k.length : Int) < (p.length : Int) := by omega
    have hzd : decide ((p.length : Int) ≤ (k.length : Int)) = false := by simp; omega
    go_enter Try.func38, Try.ntmps38
    go_wp2
    go_ret
    exact ⟨ret_bool H.out.symm, Grown.refl _⟩
theorem inB_take (l : List Sp) (k : Bs) (i : Nat) (h : i < l.length) : inB (l.take (i + 1)) k = (inB (l.take i) k || hasB l[i] k) := by
  unfold inB
  rw [List.take_add_one, List.getElem?_eq_getElem h, List.any_append]
  simp
theorem inB_hit (l : List Sp) (k : Bs) (i : Nat) (h : i < l.length) (hh : hasB l[i] k = true) : inB l k = true := by
  unfold inB
  rw [List.any_eq_true]
  exact ⟨l[i], List.getElem_mem h, hh⟩
end Go.Proofs.Ythpajecigkfajaa
namespace Go.Proofs.Ythpajecigkfajaa
open Go.RowKit Go.Sort
set_option linter.unusedVariables false

/-- The compared beginnings, the compared ends of two spans. -/
theorem cmp_low (a b : Bs) (s i t j : Int) : decide (0 < cmpE (a, false, s, i) (b, false, t, j)) = ltP (keyP b) (keyP a) :=
  cmpE_pos (a := (a, false, s, i)) (b := (b, false, t, j)) (fun h => by cases h) (fun h => by cases h)
theorem cmp_high (a b : Bs) (s i t j : Int) : decide (cmpE (a, a.isEmpty, s, i) (b, b.isEmpty, t, j) < 0) = ltP (hiP a) (hiP b) := by
  have h := ltE_wf (a := (a, a.isEmpty, s, i)) (b := (b, b.isEmpty, t, j)) (fun h => by simpa using h) (fun h => by simpa using h)
  rw [ptE_hi, ptE_hi] at h
  exact h
def strS (s : Sp) : Value := .agg #[.string (Str s.1), .string (Str s.2)]
/-- Where Meet stands: its two spans, its result, and what it makes. -/
structure MeetSt (w : World) (al ah bl bh ml mh : Bs) (wx : World) : Prop where
  a : Blk wx w.heap.size 57 #[.string (Str al), .string (Str ah)]
  b : Blk wx (w.heap.size + 1) 57 #[.string (Str bl), .string (Str bh)]
  r : Blk wx (w.heap.size + 1 + 1) 57 #[.string (Str []), .string (Str [])]
  m : Blk wx (w.heap.size + 1 + 1 + 1) 57 #[.string (Str ml), .string (Str mh)]
  g : Grown w wx
theorem MeetSt.start (w : World) (al ah bl bh : Bs) : MeetSt w al ah bl bh al ah ((((w.alloc (.cells #[.string (Str al), .string (Str ah)] 57)).alloc (.cells #[.string (Str bl), .string (Str bh)] 57)).alloc (.cells #[.string ⟨#[]⟩, .string ⟨#[]⟩] 57)).alloc (.cells #[.string (Str al), .string (Str ah)] 57)) where
  a := (((Blk.new _ _ _).alloc _).alloc _).alloc _
  b := ((Blk.new' _ _ _ (by simp)).alloc _).alloc _
  r := (Blk.new' _ _ _ (by simp)).alloc _
  m := Blk.new' _ _ _ (by simp)
  g := ((((Grown.refl w).alloc _).alloc _).alloc _).alloc _
theorem MeetSt.grown {w wx : World} {al ah bl bh ml mh : Bs} (h : MeetSt w al ah bl bh ml mh wx) (n : Nat) (os : Array Obj) : MeetSt w al ah bl bh ml mh (grow (wx.drewN n) os) where
  a := h.a.grown n os
  b := h.b.grown n os
  r := h.r.grown n os
  m := h.m.grown n os
  g := h.g.trans ⟨n, os, rfl⟩
theorem MeetSt.lo {w wx : World} {al ah bl bh ml mh : Bs} (h : MeetSt w al ah bl bh ml mh wx) (x : Bs) : MeetSt w al ah bl bh x mh (wx.setCell ⟨w.heap.size + 1 + 1 + 1, 0, none⟩ (.string (Str x))) where
  a := h.a.setCell_other (by omega) _ _
  b := h.b.setCell_other (by omega) _ _
  r := h.r.setCell_other (by omega) _ _
  m := h.m.setCell 0 _
  g := h.g.setCell _ _ _ (by omega)
theorem MeetSt.hi {w wx : World} {al ah bl bh ml mh : Bs} (h : MeetSt w al ah bl bh ml mh wx) (x : Bs) : MeetSt w al ah bl bh ml x (wx.setCell ⟨w.heap.size + 1 + 1 + 1, 1, none⟩ (.string (Str x))) where
  a := h.a.setCell_other (by omega) _ _
  b := h.b.setCell_other (by omega) _ _
  r := h.r.setCell_other (by omega) _ _
  m := h.m.setCell 1 _
  g := h.g.setCell _ _ _ (by omega)
theorem leq_eq (a b : Bs) : (Op.bytesLess a b || a == b) = !Op.bytesLess b a := by
  rw [Bool.eq_iff_iff, Bool.or_eq_true, beq_iff_eq, Bool.not_eq_true']
  constructor
  · rintro (h | rfl)
    · cases h2 : Op.bytesLess b a with
      | false => rfl
      | true => have := less_trans a b a h h2; rw [less_irrefl] at this; cases this
    · exact less_irrefl _
  · intro h
    cases h2 : Op.bytesLess a b with
    | true => exact .inl rfl
    | false => exact .inr (less_total a b h2 h)
theorem emptyB_eq (lo hi : Bs) : emptyB (lo, hi) = (!hi.isEmpty && (Op.bytesLess hi lo || hi == lo)) := by
  unfold emptyB
  cases h : hi with
  | nil => rfl
  | cons a r =>
    rw [← h]
    have hne : hi ≠ [] := by rw [h]; simp
    show (!ltP (keyP lo) (hiP hi)) = _
    rw [hiP_ne hne, leq_eq]
    have : hi.isEmpty = false := by simpa using hne
    rw [this]; rfl
theorem lessP_eq (a b : Bs) : ltP (hiP a) (hiP b) = (!a.isEmpty && (b.isEmpty || Op.bytesLess a b)) := by
  cases ha : a with
  | nil => rfl
  | cons x r =>
    rw [← ha]
    have hne : a ≠ [] := by rw [ha]; simp
    have h1 : a.isEmpty = false := by simpa using hne
    cases hb : b with
    | nil => rw [hiP_ne hne, h1]; rfl
    | cons y s =>
      rw [← hb]
      have hne2 : b ≠ [] := by rw [hb]; simp
      have h2 : b.isEmpty = false := by simpa using hne2
      rw [hiP_ne hne, hiP_ne hne2, h1, h2]; rfl
@[go_sem] theorem run_max_str {P : Program} {w : World} (ts : Array TypeId) (t : TypeId) (a b : Bs) : (Builtin.max_ ts t #[.string (Str a), .string (Str b)]).run P w = .ok (.string (Str (if Op.bytesLess a b then b else a))) w := by
  cases h : Op.bytesLess a b <;> simp [Builtin.max_, Builtin.max2, Op.stringOp, toList_Str, h, asBool]
/-- Where the reference's Meet stands. -/
theorem MeetSt.rm {w wx : World} {al ah bl bh ml mh : Bs} (h : MeetSt w al ah bl bh ml mh wx) : Blk wx (w.heap.size + 1 + 1 + 1) 57 #[.string (Str ml), .string (Str mh)] := h.m
set_option maxRecDepth 100000 in
set_option maxHeartbeats 2000000 in
theorem rprefix_w (p : Bs) (w : World) (hp : p.length ≤ 140737488355328) : Calls Try.prog 35 #[.string (Str p)] w fun e w' => e = .returned (.agg #[.string (Str p), .string (Str (preT p))]) ∧ Grown w w' := by
  have hsz := size_Str p
  go_enter Try.func35, Try.ntmps35
  go_wp2
  go_loop [3] (fun i => ∃ k : Nat, k ≤ p.length ∧ i = .int .i64 (k : Int) ∧ Hid (p.drop k = List.replicate (p.length - k) 255)) (fun i => (intOf i).toNat)
  case atStart => exact ⟨p.length, Nat.le_refl _, by first | rfl | go_num, Lib.hid (by simp)⟩
  case round =>
    obtain ⟨k, hk, rfl, HD⟩ := hrel
    by_cases hk0 : k = 0
    · subst hk0
      have H := Lib.hid (preT_full p HD.out)
      go_wp2
      refine bodyPost_ret (v := .agg #[.string (Str p), .string (Str [])]) (by simp [results, Try.results35, go_sem]; try rfl) rfl ⟨by rw [H.out], ?_⟩
      repeat (first | exact Grown.refl _ | refine Grown.setCell ?_ _ _ _ (by simp) | refine Grown.alloc ?_ _)
    · obtain ⟨j, rfl⟩ : ∃ j, k = j + 1 := ⟨k - 1, by omega⟩
      have hj : j < p.length := by omega
      have hjz : (j : Int) < (p.length : Int) := by omega
      have hpos : (0 : Int) < (j : Int) + 1 := by omega
      have hsub : (j : Int) + 1 - 1 = (j : Int) := by omega
      have hwr0 : IntKind.i64.wrap (j : Int) = (j : Int) := by rw [IntKind.wrap_i64]; omega
      by_cases hc : p[j] = 255
      · have HD' := Lib.hid (drop_full p j hj HD.out hc)
        have hcn : (p[j].toNat : Int) = 255 := by rw [hc]; rfl
        have hcb : ((p[j].toNat : Int) == 255) = true := by rw [hcn]; rfl
        clear hc hcn
        go_wp2
        go_round
        case rel => exact ⟨j, by omega, by go_num, HD'⟩
        case measure => simp [intOf]
      · have H := Lib.hid (preT_at p j hj HD.out hc)
        have hcn : (p[j].toNat : Int) < 255 := by
          have h0 : p[j].toNat ≠ 255 := fun h' => hc (UInt8.toNat_inj.1 (by rw [h']; rfl))
          have h1 := p[j].toNat_lt
          omega
        have hcb : ((p[j].toNat : Int) == 255) = false := by simp; omega
        have Hi := Lib.hid (u8_inc p[j] hc)
        have hwr : IntKind.u8.wrap ((p[j].toNat : Int) + 1) = (p[j].toNat : Int) + 1 := by simp [IntKind.wrap, IntKind.bits, IntKind.signed]; omega
        have hjl : j ≤ p.length := by omega
        have hjlz : (j : Int) ≤ (p.length : Int) := by omega
        clear hc
        go_wp2
        go_region
        all_goals go_wp2
        all_goals
          refine bodyPost_ret (v := .agg #[.string (Str p), .string (Str (p.take j ++ [p[j] + 1]))]) (by simp [results, Try.results35, go_sem, Str_add]) rfl ⟨by rw [H.out], ?_⟩
          repeat (first | exact Grown.refl _ | refine Grown.setCell ?_ _ _ _ (by simp) | refine Grown.alloc ?_ _ | refine Grown.draw ?_)

end Go.Proofs.Ythpajecigkfajaa
