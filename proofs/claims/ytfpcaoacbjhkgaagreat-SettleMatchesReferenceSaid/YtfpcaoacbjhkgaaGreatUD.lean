/-
  Walks: slices.AppendSeq and slices.Collect over the settled messages, and List.
-/
import Derived.Sort.CutIn
import Derived.Stop.RegionWithIn
import Derived.Test.YtfpcaoacbjhkgaaGreatUC
namespace Go.Proofs.YtfpcaoacbjhkgaaGreat
open Go.RowKit Go.Sort Go.Shelf
set_option linter.unusedVariables false
attribute [local go_sem] Oper.semAt_some

theorem boxed_inj {W : World} {B : Nat} {t : TypeId} {u v : Value} (h : Boxed W B t u) (k : Boxed W B t v) : u = v := by
  have h1 := h.cell
  rw [k.cell] at h1
  exact (Option.some.inj h1).symm
theorem own_notcells {W : World} {base : Nat} {e : TypeId} {size n : Nat} {v : Value} {xs : List Value} (h : W.ownsRow base e size v n xs) {r : Nat} {o : Obj} (ho : W.heap[r]? = some o) (hc : o.isCells = false) : v.ownBlock = none ∨ v.ownBlock ≠ some r := by
  rcases h.2 with ⟨rfl, _⟩ | ⟨g, cap, cur, rfl, _, hgb, _⟩
  · exact .inl rfl
  · refine .inr fun e' => ?_
    have e2 : g = r := Option.some.inj e'
    subst e2
    rw [hgb] at ho; cases ho; cases hc
theorem blk_kept {w w' : World} {b : Nat} {T : TypeId} {cs : Array Value} {row : Option Nat} (h : Blk w b T cs) (hg : w.grownBy w' row) (hne : some b ≠ row) : Blk w' b T cs := by
  unfold Blk at *
  rw [hg.block b (Array.getElem?_eq_some_iff.1 h).1 hne]
  exact h
theorem blk_notcells {w : World} {b : Nat} {T : TypeId} {cs : Array Value} (h : Blk w b T cs) {o : Obj} (ho : w.heap[b]? = some o) (hc : o.isCells = false) : False := by
  unfold Blk at h
  rw [h] at ho; cases ho; cases hc
theorem boxed_below {W W' : World} {B : Nat} {t : TypeId} {v : Value} (h : Boxed W B t v) (hb : Below W.heap.size W W') : Boxed W' B t v := (hb.block B h.lt).trans h
theorem keeps_row {W W' : World} {base size n : Nat} {e : TypeId} {v : Value} {xs : List Value} (h : W.ownsRow base e size v n xs) (hg : W.grownBy W' v.ownBlock) : KeepsOthers W W' :=
  KeepsOthers.of_grownBy hg fun j o ej hj => by
    rcases h.2 with ⟨rfl, _⟩ | ⟨g, cap, cur, rfl, _, hgb, _⟩
    · cases ej
    · have e2 : g = j := Option.some.inj ej
      subst e2
      rw [hgb] at hj; cases hj; rfl
theorem keeps_below {W W' : World} (h : Below W.heap.size W W') : KeepsOthers W W' := KeepsOthers.of_grownBy (grownBy_belowU h none) (fun _ _ h => by cases h)
theorem below_row {B : Nat} {W W' : World} {base size n : Nat} {e : TypeId} {v : Value} {xs : List Value} (h : W.ownsRow base e size v n xs) (hg : W.grownBy W' v.ownBlock) (hB : B ≤ base) (hw : base ≤ W.heap.size) : Below B W W' :=
  (Below.refl B W).grown hg (by omega) (fun k ek => Nat.le_trans hB (h.lt k ek).1)
theorem own_formM {w : World} {base n : Nat} {e : TypeId} {size : Nat} {v : Value} {xs : List Value} (h : w.ownsRow base e size v n xs) : ∃ p cap, v = .slice p n cap ∧ n ≤ cap ∧ cap ≤ maxLen := by
  have hl := h.1
  rcases h.2 with ⟨rfl, h0⟩ | ⟨g, cap, cur, rfl, hb, hg, hn, hm, _⟩
  · exact ⟨none, 0, by rw [h0], by omega, by unfold maxLen; omega⟩
  · exact ⟨_, cap, rfl, hn, hm⟩
theorem cells_newM (wx : World) (m : Ms) (T : TypeId) : ∀ j u, (encML m)[j]? = some u → (wx.alloc (.cells (encM m) T)).cell? ((⟨wx.heap.size, 0, none⟩ : Addr).add j) = some u := by
  intro j u hj
  have h := (Blk.new wx T (encM m)).c0 j u (by simpa [encML] using hj)
  have e : (⟨wx.heap.size, 0, none⟩ : Addr).add j = ⟨wx.heap.size, j, none⟩ := by unfold Addr.add; split <;> simp_all
  rw [e]; exact h
/-- One message more, inside a fence. -/
theorem appendIn_msg {F : Fence} {n : Nat} {w : World} {ops : Array Oper} {rest : List Oper} {o : Oper} {a : Act} {Q : Exit → Act → World → Prop} (hgd : o.guard = none) (s x : Operand)
    (ho : o.op = .call { callee := .builtin .append, args := #[s, x], argTypes := #[25, 25] }) (base : Nat) (v : Value) (l : List Ms) (hs : a.eval s = v) (hown : OwnM w base v l)
    (ad : Addr) (c : Nat) (m : Ms) (hx : a.eval x = .slice (some ad) 1 c) (hc : ∀ j u, (encML m)[j]? = some u → w.cell? (ad.add j) = some u) (hl : l.length ≤ 1000000000) (hbase : base ≤ w.heap.size)
    (h : ∀ v' w', OwnM w' base v' (l ++ [m]) → w.grownBy w' v.ownBlock → wpListIn F n Tryz.prog ops Q rest (a.put o.dst v') w') : wpListIn F n Tryz.prog ops Q (o :: rest) a w := by
  obtain ⟨i0, hi, hz0, hz1, hz2⟩ := info_parts infoM
  refine wpListIn_append_own _ hgd s x 25 ho base 40 i0 (.agg #[.int .i64 0, .string ⟨#[]⟩, .string ⟨#[]⟩, .string ⟨#[]⟩, .string ⟨#[]⟩, .string ⟨#[]⟩, .string ⟨#[]⟩, .int .i64 0]) 8 112 Tryz.underlying25 hi hz0 hz1 hz2 rfl (by decide) v l.length _ hs hown ad 1 c (encML m) hx rfl hc (by simpa using flatM_one [m]) (by unfold maxLen; omega) (by omega) hbase ?_
  intro v' w' h2 h3 _
  refine h v' w' ?_ h3
  unfold OwnM
  rw [List.length_append, List.flatMap_append]; simpa using h2

/-- Between two rounds: the box of the slice, and what has come. -/
structure ApU (w : World) (pre : List Ms) (W : World) : Prop where
  ex : ∃ vs, Boxed W w.heap.size 25 vs ∧ OwnM W w.heap.size vs pre
  bl : Below w.heap.size w W
theorem ApU.own (w : World) (B : Nat) (hB : w.heap.size ≤ B) : OwnFrom B (ApU w) := by
  intro pre W W' row h hg hr
  have hbl := (ownFrom_below (β := List Ms) (n₀ := w.heap.size) (B := B) (w₀ := w) (Nat.le_refl _) hB) pre W W' row h.bl hg hr
  obtain ⟨vs, b2, o2⟩ := h.ex
  have hne : ∀ {B' : Nat} {t : TypeId} {v : Value}, Boxed W B' t v → some B' ≠ row := fun hb e => by
    obtain ⟨-, o, ho, hc⟩ := hr _ e.symm
    rw [show W.heap[_]? = _ from hb] at ho; cases ho; cases hc
  have hno : ∀ {e : TypeId} {size n : Nat} {v : Value} {xs : List Value}, W.ownsRow w.heap.size e size v n xs → v.ownBlock = none ∨ v.ownBlock ≠ row := fun ho => by
    cases row with
    | none =>
      rename_i v _
      cases hv : v.ownBlock with
      | none => exact .inl rfl
      | some j => exact .inr (by simp)
    | some r =>
      obtain ⟨-, o, h1, h2⟩ := hr r rfl
      exact own_notcells ho h1 h2
  exact ⟨⟨vs, b2.kept hg (hne b2), o2.kept hg (hno o2)⟩, hbl⟩

/-- What the iterator of the settled messages promises. -/
theorem settled_stops (n : Nat) (hn : 1 ≤ n) (Bm Bp : Nat) (m : Ms) (sv : Value) (src : List Pr) (w : World) (hl : src.length ≤ 1000000000) (hz : SizeM m) (hk : ∀ x ∈ src, m.src.isPrefixOf x.1 = true ∧ x.1.length ≤ 1000000000)
    (hm : Blk w Bm 40 (encM m)) (hBp : Bp < w.heap.size) (hp : w.cell? ⟨Bp, 0, none⟩ = some sv) (hI : IsPairs w sv src) (w0 : World) (h0 : Below w.heap.size w w0) :
    SeqStopsK Fence.wide n Tryz.prog 103 #[.pointer (some ⟨Bm, 0, none⟩), .pointer (some ⟨Bp, 0, none⟩)] (fun x : Ms => #[msgV x]) (Below w.heap.size) (fun ys => ys = settledS m src) (fun _ => True) (settledS m src).length w0 := fun lp J Jx W hW hJ _ hY hJ0 =>
  settled1_in n hn lp Bm Bp m sv src w hl hz hk hm hBp hp hI J Jx W (h0.trans (hW.mono h0.size)) hJ hY hJ0

set_option maxRecDepth 100000 in
set_option maxHeartbeats 4000000 in
theorem appendSeq_w (Bm Bp : Nat) (m : Ms) (sv : Value) (src : List Pr) (w : World) (hl : src.length ≤ 100000000) (hz : SizeM m) (hk : ∀ x ∈ src, m.src.isPrefixOf x.1 = true ∧ x.1.length ≤ 1000000000)
    (hm : Blk w Bm 40 (encM m)) (hBp : Bp < w.heap.size) (hp : w.cell? ⟨Bp, 0, none⟩ = some sv) (hI : IsPairs w sv src) :
    Calls Tryz.prog 102 #[.slice none 0 0, .func (.func 103) #[] #[.pointer (some ⟨Bm, 0, none⟩), .pointer (some ⟨Bp, 0, none⟩)]] w fun e w' => ∃ v', e = .returned v' ∧ OwnM w' w.heap.size v' (settledS m src) ∧ Below w.heap.size w w' := by
  refine (callsIn_wide (n := 3)).1 ?_
  have hsl := settled_len m src
  obtain ⟨W0, hW0⟩ : ∃ W0, W0 = w.alloc (.cells #[.slice none 0 0] 25) := ⟨_, rfl⟩
  have hsz0 : W0.heap.size = w.heap.size + 1 := by rw [hW0]; simp
  have hb0 : Below w.heap.size w W0 := by rw [hW0]; exact below_box _
  have bx : Boxed W0 w.heap.size 25 (.slice none 0 0) := by rw [hW0]; exact Boxed.new w _ _
  have HST := Lib.hid (settled_stops (3 - 1) (by omega) Bm Bp m sv src w (by omega) hz hk hm hBp hp hI W0 hb0)
  have HW0 := Lib.hid hW0
  clear hz hk hm hBp hp hI hW0
  generalize settledS m src = L at *
  have hLl : L.length ≤ 100000002 := by omega
  clear hsl
  refine callsIn_of_wp_marks Tryz.func102 rfl trivial ?_ rfl
  simp only [Tryz.ntmps102, List.size_toArray, List.length_cons, List.length_nil, Nat.reduceAdd, Nat.reduceSub, Array.replicate_succ, Array.replicate_zero, List.push_toArray, List.append_toArray, List.nil_append, List.cons_append]
  gi_wp2
  rw [← HW0.out]
  refine wpIn_rangeFunc_ownH (α := Ms) rfl (by omega) (gf := 103) (lb := #[.pointer (some ⟨Bm, 0, none⟩), .pointer (some ⟨Bp, 0, none⟩)]) rfl trivial (enters_of Tryz.func103 (by kernel_rfl) rfl)
    HST.out (fun h k => h.trans k) (belowK_b (by omega)) (Below.refl _ _) (fun _ => rfl)
    (ApU w) (fun _ _ _ => False) (ApU.own w _ (by omega)) (fun _ _ _ _ _ h _ _ => h)
    ⟨⟨_, bx, World.ownsRow_nil _ _ _ _⟩, hb0⟩
    (fun x a' W => ∃ Bx vs, w.heap.size < Bx ∧ Blk W Bx 40 (encM x) ∧ Boxed W w.heap.size 25 vs ∧ vs.ownBlock ≠ some Bx ∧ a' = { tmps := #[.slice none 0 0, .func (.func 103) #[] #[.pointer (some ⟨Bm, 0, none⟩), .pointer (some ⟨Bp, 0, none⟩)], .pointer (some ⟨w.heap.size, 0, none⟩), undef, .slice none 0 0, .pointer (some ⟨Bx, 0, none⟩), .func (.func 103) #[] #[.pointer (some ⟨Bm, 0, none⟩), .pointer (some ⟨Bp, 0, none⟩)], msgV x, undef, undef, undef, undef, undef], defers := [] }) ?_ ?assign ?body ?done ?stop
  · rintro x a' _ W W' row ⟨Bx, vs, h1, h2, h3, h4, rfl⟩ hg hr
    refine ⟨Bx, vs, h1, ?_, ?_, h4, rfl⟩
    · exact blk_kept h2 hg fun e => by
        obtain ⟨-, o, ho, hc⟩ := hr _ e.symm
        exact blk_notcells h2 ho hc
    · exact h3.kept hg fun e => by
        obtain ⟨-, o, ho, hc⟩ := hr _ e.symm
        rw [show W.heap[_]? = _ from h3] at ho; cases ho; cases hc
  case assign =>
    rintro lp pre x W K hi hK
    obtain ⟨vs, b2, o2⟩ := hi.ex
    have hbl := hi.bl.size
    have hsz := b2.lt
    gi_wp2
    refine hK _ _ ((KeepsOthers.alloc _ _).from _) ((Below.refl _ W).alloc hbl _) ((ApU.own w W0.heap.size (by omega)).alloc _ hi) ⟨W.heap.size, vs, hsz, Blk.new _ _ _, b2.alloc _, fun e => ?_, rfl⟩
    have := (o2.lt _ e).2
    omega
  case body =>
    rintro lp pre m a' W hlp ⟨r, hr⟩ hi ⟨Bx, vs0, hBx, bX, b20, hnx, rfl⟩ hlt
    obtain ⟨vs, b2, o2⟩ := hi.ex
    obtain rfl := boxed_inj b20 b2
    have hbl := hi.bl
    obtain ⟨ps2, caps2, hvs2, hsc2, hsm2⟩ := own_formM o2
    subst hvs2
    unfold maxLen at hsm2
    have c2 := b2.cell
    have hbase : w.heap.size ≤ W.heap.size := hbl.size
    have m0 : W.cell? ⟨Bx, 0, none⟩ = some (.int .i64 m.kind) := bX.c0 0 _ rfl
    have m1 : W.cell? ⟨Bx, 1, none⟩ = some (.string (Str m.key)) := bX.c0 1 _ rfl
    have m2 : W.cell? ⟨Bx, 2, none⟩ = some (.string (Str m.val)) := bX.c0 2 _ rfl
    have m3 : W.cell? ⟨Bx, 3, none⟩ = some (.string (Str m.lo)) := bX.c0 3 _ rfl
    have m4 : W.cell? ⟨Bx, 4, none⟩ = some (.string (Str m.hi)) := bX.c0 4 _ rfl
    have m5 : W.cell? ⟨Bx, 5, none⟩ = some (.string (Str m.src)) := bX.c0 5 _ rfl
    have m6 : W.cell? ⟨Bx, 6, none⟩ = some (.string (Str m.dst)) := bX.c0 6 _ rfl
    have m7 : W.cell? ⟨Bx, 7, none⟩ = some (.int .i64 m.n) := bX.c0 7 _ rfl
    have hI := Lib.hid hi
    clear hi
    gi_wp2_with (gi_at_builtin; go_must (refine appendIn_msg rfl _ _ rfl w.heap.size (.slice ps2 pre.length caps2) pre rfl ?c0 ⟨W.heap.size, 0, none⟩ 1 m rfl ?c1 ?c2 ?c3 ?c4; (case c0 => exact o2.below (below_box _)); (case c1 => exact cells_newM W m _); (case c2 => omega); (case c3 => simp; omega); intro v9 w9 ho9 hg9; obtain ⟨p9, cap9, rfl, h91, h92⟩ := own_formM ho9; have b29 := (b2.alloc (.cells (encM m) 40)).kept hg9 ((b2.alloc (.cells (encM m) 40)).not_row (by decide) (o2.below (below_box (.cells (encM m) 40)))); have c29 := b29.cell; have f29 := b29.frozen))
    have hML : (pre ++ [m]).length = pre.length + 1 := by simp
    obtain ⟨-, b2d, o2d, k7, l7⟩ := b2.appended (by decide) o2 hbase (Nat.le_refl _) ho9 hg9
    rw [hML] at b2d o2d k7 l7
    refine ⟨k7.from _, ?_, ⟨_, b2d, ?_⟩, hbl.trans ?_⟩
    · exact l7
    · unfold OwnM; rw [hML]; exact o2d
    · exact l7
  case done =>
    rintro Dd ys W hDl rfl hi hDk
    obtain ⟨vs, b2, o2⟩ := hi.ex
    have hbl := hi.bl
    obtain ⟨ps, caps, hvs, hs1, hs2⟩ := own_formM o2
    subst hvs
    have c2 := b2.cell
    gi_wp2
    refine ⟨by simp, .inl ⟨_, _, rfl, run_takeDeferred hDk, ?_⟩⟩
    refine ⟨_, results_tmp rfl _ _ _, _, rfl, ?_, ?_⟩
    · exact ownsRow_putObj o2 _ hDk rfl
    · exact hbl.trans (belowK_b (w := w) (Nat.le_refl _) W Dd _ _ (by omega) hDk rfl rfl)
  case stop =>
    rintro D c pre W _ _ h _
    exact h.elim

end Go.Proofs.YtfpcaoacbjhkgaaGreat
