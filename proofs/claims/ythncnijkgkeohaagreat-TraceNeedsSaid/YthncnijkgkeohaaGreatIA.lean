/-
  Walks: spans followed back through messages.
-/
import Derived.Sort.CutIn
import Derived.Stop.RegionWithIn
import Derived.Laws.EntriesVeiled
import Derived.Test.YthncnijkgkeohaaGreatHV
import Derived.Test.YthncnijkgkeohaaGreatHZ
namespace Go.Proofs.YthncnijkgkeohaaGreat
open Go.RowKit Go.Sort Go.Shelf
set_option linter.unusedVariables false
attribute [local go_sem] Oper.semAt_some

theorem own_emptyS (W : World) (B : Nat) (hB : B ≤ W.heap.size) : (W.alloc (.cells #[] 29)).ownsRow B 29 2 (.slice (some ⟨W.heap.size, 0, none⟩) 0 0) 0 (([] : List Sp).flatMap encS) :=
  ⟨rfl, .inr ⟨W.heap.size, 0, #[], rfl, hB, Blk.new _ _ _, Nat.le_refl _, by unfold maxLen; omega, rfl, rfl⟩⟩
set_option maxHeartbeats 2000000 in
theorem cloneS_w (v : Value) (l : List Sp) (w : World) (h : IsSpans w v l) (hl : l.length ≤ 1000000000) :
    Calls Tryz.prog 93 #[v] w (OutS w.heap.size w l) := by
  obtain ⟨a, cap, hv, _, _, hc⟩ := id h
  have H := Lib.hid h
  clear h
  subst hv
  have q26 : ∀ (w : World) (a : Option Addr) (n c n' c' : Nat), (binOp .eql 43 (.slice a n c) (.slice none n' c')).run Tryz.prog w = .ok (.bool a.isNone) w := fun w a n c n' c' => Lib.run_eql_slice_nil w _ _ a n c n' c' Tryz.underlying43
  cases a with
  | none =>
    have hn : l = [] := by
      rcases l with _ | ⟨x, r⟩
      · rfl
      · obtain ⟨b, off, e, _⟩ := hc (by simp); cases e
    subst hn
    clear hc
    go_enter Tryz.func93, Tryz.ntmps93
    go_wp2
    go_ret
    exact ⟨_, rfl, World.ownsRow_nil _ _ _ _, Below.refl _ _⟩
  | some ad =>
    clear hc
    go_enter Tryz.func93, Tryz.ntmps93
    go_wp2_with (at_builtin; refine append_spans rfl _ _ rfl w.heap.size _ [] rfl (own_emptyS w w.heap.size (Nat.le_refl _)) _ l rfl (H.out.below (below_box _)) (by simp; omega) (by simp) ?_; intro v' w1 hown hbel)
    have Hown := Lib.hid hown
    have Hbel : Hid (Below w.heap.size w w1) := Lib.hid ((below_box _).trans hbel)
    clear hown hbel
    go_wp2
    go_ret
    exact ⟨_, rfl, Hown.out, Hbel.out⟩

set_option maxHeartbeats 2000000 in
theorem spanLooks_w (w : World) : Calls Tryz.prog 48 #[] w fun e w' => e = .returned (slooksV (w.heap.size + 1)) ∧ Blk w' (w.heap.size + 1) 92 #[fk2V] ∧ Grown w w' := by
  go_enter Tryz.func48, Tryz.ntmps48
  go_wp2
  refine bodyPost_ret (v := slooksV (w.heap.size + 1)) (by simp [results, Tryz.results48, go_sem]) rfl ⟨rfl, Blk.new' (n := w.heap.size + 1) _ _ #[fk2V] (by simp), ((Grown.refl w).alloc _).alloc _⟩
theorem keysNorm_w (s : Sp) (w : World) (T : TypeId) : Calls Tryz.prog 94 #[.slice (some ⟨w.heap.size + 1, 0, none⟩) 1 1] ((w.alloc (.cells #[.string (Str s.1), .string (Str s.2)] 29)).alloc (.cells #[.string (Str s.1), .string (Str s.2)] T)) fun e w' =>
    ∃ v, e = .returned v ∧ w'.ownsRow w.heap.size 29 2 v (normS [s]).length ((normS [s]).flatMap encS) ∧ Below w.heap.size w w' := by
  have hb : Below w.heap.size w ((w.alloc (.cells #[.string (Str s.1), .string (Str s.2)] 29)).alloc (.cells #[.string (Str s.1), .string (Str s.2)] T)) := ((Below.refl _ w).alloc (Nat.le_refl _) _).alloc (by simp) _
  have h := norm_w (.slice (some ⟨w.heap.size + 1, 0, none⟩) 1 1) [s] ((w.alloc (.cells #[.string (Str s.1), .string (Str s.2)] 29)).alloc (.cells #[.string (Str s.1), .string (Str s.2)] T)) (one_spans (w := w.alloc (.cells #[.string (Str s.1), .string (Str s.2)] 29)) s T (by simp)) (by simp)
  have hsz := hb.size
  generalize (w.alloc (.cells #[.string (Str s.1), .string (Str s.2)] 29)).alloc (.cells #[.string (Str s.1), .string (Str s.2)] T) = W at *
  exact h.mono fun e w' ⟨v, h1, h2, h3⟩ => ⟨v, h1, owns_lower h2 hsz, hb.trans (h3.mono hsz)⟩
set_option maxHeartbeats 2000000 in
theorem keysOf_w (s : Sp) (w : World) : Calls Tryz.prog 47 #[strS s] w (OutS w.heap.size w (normS [s])) := by
  have hnl := norm_length [s]
  have HN := Lib.hid (keysNorm_w s w)
  have HCL := Lib.hid (fun vn w1 B (h : w1.ownsRow B 29 2 vn (normS [s]).length ((normS [s]).flatMap encS)) => cloneS_w vn (normS [s]) w1 (IsSpans.owned h) (by simp at hnl; omega))
  obtain ⟨lo, hi⟩ := s
  simp only [strS] at *
  generalize normS [(lo, hi)] = N at *
  go_enter Tryz.func47, Tryz.ntmps47
  go_wp2_with fail
  refine (HN.out _).mono ?_
  rintro e w1 ⟨vn, rfl, hn1, hb1⟩
  have HB1 := Lib.hid hb1
  have HN1 := Lib.hid hn1
  clear hn1 hb1
  go_wp2_with (go_at_call 93; refine (HCL.out _ _ _ HN1.out).mono ?_; rintro e w2 ⟨v2, rfl, ho2, hb2⟩; have HO2 := Lib.hid ho2; have HB2 := Lib.hid hb2; clear ho2 hb2)
  go_ret
  exact ⟨_, rfl, owns_lower HO2.out HB1.out.size, HB1.out.trans (HB2.out.mono HB1.out.size)⟩

/-! ### The state between two rounds -/
def stS (s : Sp) (pre : List (Int × Mo)) : List Sp := (pre.map fun x => x.2.1).foldl (fun L m => backS m L) (normS [s])
theorem stS_snoc (s : Sp) (pre : List (Int × Mo)) (x : Int × Mo) : stS s (pre ++ [x]) = backS x.2.1 (stS s pre) := by unfold stS; rw [List.map_append, List.foldl_append]; rfl
structure RunS (s : Sp) (pre : List (Int × Mo)) : Prop where
  nrm : Nrm (stS s pre)
  len : (stS s pre).length ≤ 1 + 3 * pre.length
  ends : LenS (1000000001 + 1000000000 * pre.length) (stS s pre)
theorem RunS.nil {s : Sp} (h1 : s.1.length ≤ 1000000000) (h2 : s.2.length ≤ 1000000000) : RunS s [] :=
  ⟨norm_nrm _, by have := norm_length [s]; exact this, norm_lenS fun x hx => by rw [List.mem_singleton] at hx; subst hx; exact ⟨by simp only [List.length_nil]; omega, by simp only [List.length_nil]; omega⟩⟩
theorem RunS.step {s : Sp} {pre : List (Int × Mo)} (h : RunS s pre) (x : Int × Mo) : RunS s (pre ++ [x]) := by
  obtain ⟨h1, h2, h3, h4, h5, h6⟩ := x.2.2.1
  refine ⟨?_, ?_, ?_⟩
  · rw [stS_snoc]; exact back_nrm _ h.nrm
  · rw [stS_snoc, List.length_append]
    have := back_len x.2.1 h.nrm
    have := h.len
    simp only [List.length_cons, List.length_nil]; omega
  · rw [stS_snoc, List.length_append]
    exact (back_lenS (by omega) h1 h3 h4 h5 h6 h.ends).mono (by simp only [List.length_cons, List.length_nil]; omega)
theorem stS_all (s : Sp) (l : List Mo) : stS s (backM l l.length) = spansF s (l.map (·.1)) := by
  have e : (backM l l.length).map (fun x => x.2.1) = (l.map (·.1)).reverse := by
    have h := backM_take l l.length (Nat.le_refl _)
    rw [List.take_of_length_le (by simp)] at h
    rw [← List.map_reverse, ← h, List.map_map]
    rfl
  unfold stS spansF
  rw [e]

theorem blk_apart {W : World} {base n size b : Nat} {e f : TypeId} (hef : e ≠ f) {v : Value} {cs : Array Value} {ys : List Value} (h : Blk W b e cs) (g : W.ownsRow base f size v n ys) : v.ownBlock ≠ some b := by
  intro hk
  rcases g.2 with ⟨rfl, _⟩ | ⟨b2, cap2, cur2, rfl, _, hb2, _⟩
  · cases hk
  have e2 : b2 = b := Option.some.inj hk
  subst e2
  unfold Blk at h
  rw [hb2] at h
  simp at h
  exact hef h.2.symm
theorem own_notcells {W : World} {base : Nat} {e : TypeId} {size n : Nat} {v : Value} {xs : List Value} (h : W.ownsRow base e size v n xs) {r : Nat} {o : Obj} (ho : W.heap[r]? = some o) (hc : o.isCells = false) : v.ownBlock = none ∨ v.ownBlock ≠ some r := by
  rcases h.2 with ⟨rfl, _⟩ | ⟨g, cap, cur, rfl, _, hgb, _⟩
  · exact .inl rfl
  · refine .inr fun e' => ?_
    have e2 : g = r := Option.some.inj e'
    subst e2
    rw [hgb] at ho; cases ho; cases hc
/-- What the loop keeps. -/
structure SvC (s : Sp) (w : World) (Bk mv q : Nat) (sv : Value) (pre : List (Int × Mo)) (W : World) : Prop where
  run : RunS s pre
  ex : ∃ vk, Boxed W Bk 90 vk ∧ W.ownsRow w.heap.size 29 2 vk (stS s pre).length ((stS s pre).flatMap encS)
  mvb : Blk W mv 92 #[fk2V]
  looks : Blk W q 94 (slooksA mv)
  bl : Below w.heap.size w W
  bs : Boxed W (q + 1) 25 sv
theorem SvC.own (s : Sp) (w : World) (Bk mv q : Nat) (sv : Value) (B : Nat) (hB : w.heap.size ≤ B) : OwnFrom B (SvC s w Bk mv q sv) := by
  intro pre W W' row h hg hr
  have hbl := (ownFrom_below (β := List (Int × Mo)) (n₀ := w.heap.size) (B := B) (w₀ := w) (Nat.le_refl _) hB) pre W W' row h.bl hg hr
  have hb : ∀ {b : Nat} {T : TypeId} {cs : Array Value}, Blk W b T cs → some b ≠ row := fun hb e => by
    obtain ⟨-, o, ho, hc⟩ := hr _ e.symm
    exact blk_notcells hb ho hc
  obtain ⟨vk, b1, o1⟩ := h.ex
  refine ⟨h.run, ⟨vk, b1.kept hg (hb (show Blk W Bk 90 #[vk] from b1)), o1.kept hg ?_⟩, blk_kept h.mvb hg (hb h.mvb), blk_kept h.looks hg (hb h.looks), hbl, h.bs.kept hg (hb (show Blk W (q + 1) 25 #[sv] from h.bs))⟩
  cases row with
  | none =>
    cases hv : vk.ownBlock with
    | none => exact .inl rfl
    | some j => exact .inr (by simp)
  | some r =>
    obtain ⟨-, o, h1, h2⟩ := hr r rfl
    exact own_notcells o1 h1 h2
theorem SvC.next {s : Sp} {w : World} {Bk mv q : Nat} {sv : Value} {pre p2 : List (Int × Mo)} {W w2 : World} {vk v2 : Value} {n : Nat} {xs : List Value} (h : SvC s w Bk mv q sv pre W) (hr : RunS s p2) (b1 : Boxed W Bk 90 vk) (o1 : W.ownsRow w.heap.size 29 2 vk n xs)
    (o2 : w2.ownsRow w.heap.size 29 2 v2 (stS s p2).length ((stS s p2).flatMap encS)) (t2 : Turn vk v2 W w2) (n1 : mv ≠ Bk) (n2 : q ≠ Bk) (n3 : q + 1 ≠ Bk) (hBk : w.heap.size ≤ Bk) :
    SvC s w Bk mv q sv p2 (w2.setCell ⟨Bk, 0, none⟩ v2) ∧ KpB w.heap.size (q + 1) W (w2.setCell ⟨Bk, 0, none⟩ v2) ∧ KeepsOthers W (w2.setCell ⟨Bk, 0, none⟩ v2) := by
  have hw := h.bl.size
  have b2 := b1.kept t2.1 (b1.not_row (by decide) o1)
  have m2 : Blk w2 mv 92 #[fk2V] := blk_kept h.mvb t2.1 (fun e => blk_apart (by decide) h.mvb o1 e.symm)
  have l2 := blk_kept h.looks t2.1 (fun e => blk_apart (by decide) h.looks o1 e.symm)
  have s2 := (h.bs.kept t2.1 (h.bs.not_row (by decide) o1)).other (B' := Bk) n3 v2
  have hbl : Below w.heap.size W (w2.setCell ⟨Bk, 0, none⟩ v2) := (below_row o1 t2.1 (Nat.le_refl _) hw).setCell (p := ⟨Bk, 0, none⟩) hBk _
  exact ⟨⟨hr, ⟨v2, b2.set _, o2.kept (grownBy_setCell' w2 Bk v2) (.inr fun e => (b2.not_row (by decide) o2) e.symm)⟩, m2.setCell_other n1 0 v2, l2.setCell_other n2 0 v2, h.bl.trans hbl, s2⟩,
    ⟨hbl, (show _ = _ from s2).trans h.bs.symm⟩, (keeps_row o1 t2.1).trans (KeepsOthers.setCell _ _ _)⟩

set_option maxRecDepth 100000 in
set_option maxHeartbeats 4000000 in
theorem tspans_w (s : Sp) (v : Value) (l : List Mo) (w : World) (hm : IsMsgs w v (l.map (·.1))) (hl : l.length ≤ 30) (hs1 : s.1.length ≤ 1000000000) (hs2 : s.2.length ≤ 1000000000) :
    Calls Tryz.prog 19 #[strS s, v] w (OutS w.heap.size w (spansF s (l.map (·.1)))) := by
  refine (callsIn_wide (n := 3)).1 ?_
  obtain ⟨lo, hj⟩ := s
  have HKO := Lib.hid (fun wx => keysOf_w (lo, hj) wx)
  have HKL := Lib.hid (fun wx => spanLooks_w wx)
  obtain ⟨av, capv, rfl, hlc, hcm, -⟩ := id hm
  have hml : (l.map (·.1)).length = l.length := List.length_map ..
  rw [hml] at hlc hm ⊢
  have HM := Lib.hid hm
  clear hm hml
  unfold maxLen at hcm
  have HR0 := Lib.hid (RunS.nil (s := (lo, hj)) hs1 hs2)
  have HAL := Lib.hid (stS_all (lo, hj) l)
  rw [← HAL.out]
  have HS0 : Hid (stS (lo, hj) [] = normS [(lo, hj)]) := Lib.hid rfl
  rw [← HS0.out] at HKO
  simp only [strS] at HKO ⊢
  clear HAL HS0 hs1 hs2
  refine callsIn_of_wp_marks Tryz.func19 rfl trivial ?_ rfl
  simp only [Tryz.ntmps19, List.size_toArray, List.length_cons, List.length_nil, Nat.reduceAdd, Nat.reduceSub, Array.replicate_succ, Array.replicate_zero, List.push_toArray, List.append_toArray, List.nil_append, List.cons_append]
  gi_wp2_with (first
    | (refine ⟨trivial, ?_⟩; gi_at_call 47; refine (callsIn_wide.2 (HKO.out _)).mono ?_; rintro e w0 ⟨vk, rfl, hk0, hb0⟩; obtain ⟨pk, capk, rfl, hkc, hkm, -⟩ := own_form hk0)
    | (gi_at_call 47; refine (callsIn_wide.2 (HKO.out _)).mono ?_; rintro e w0 ⟨vk, rfl, hk0, hb0⟩; obtain ⟨pk, capk, rfl, hkc, hkm, -⟩ := own_form hk0)
    | (refine ⟨trivial, ?_⟩; gi_at_call 48; refine (callsIn_wide.2 (HKL.out _)).mono ?_; rintro e w1 ⟨rfl, hc1, hg1⟩)
    | (gi_at_call 48; refine (callsIn_wide.2 (HKL.out _)).mono ?_; rintro e w1 ⟨rfl, hc1, hg1⟩)
    | (refine ⟨trivial, ?_⟩; gi_at_call 45; refine (bwd_in Fence.wide _ trivial rfl _ _ _ _).mono ?_; rintro e w3 ⟨rfl, rfl⟩)
    | (gi_at_call 45; refine (bwd_in Fence.wide _ trivial rfl _ _ _ _).mono ?_; rintro e w3 ⟨rfl, rfl⟩))
  have hmv : Blk w1 (w0.heap.size + 1 + 1) 92 #[fk2V] := by simpa using hc1
  have hq : w0.heap.size + 1 + 1 < w1.heap.size := hmv.lt
  have hsz0 : w.heap.size < w0.heap.size := by have := hb0.size; simp at this; omega
  have hbw0 : Below w.heap.size w w0 := (below_box _).trans (hb0.mono (by simp))
  have hk1 : Boxed w1 w0.heap.size 90 (.slice pk (stS (lo, hj) []).length capk) := hg1.blk (Blk.new _ _ _)
  have ho1 : w1.ownsRow w.heap.size 29 2 (.slice pk (stS (lo, hj) []).length capk) (stS (lo, hj) []).length ((stS (lo, hj) []).flatMap encS) := owns_lower (owns_below (owns_below hk0 (below_box _)) (hg1.below (Nat.le_refl _))) (by simp)
  have hb1 : Below w.heap.size w w1 := hbw0.trans (((below_box _).mono hbw0.size).trans (hg1.below (by simp; omega)))
  obtain ⟨W0, hW0⟩ : ∃ W0, W0 = (w1.alloc (.cells (slooksA (w0.heap.size + 1 + 1)) 94)).alloc (.cells #[.slice av l.length capv] 25) := ⟨_, rfl⟩
  have hszW : W0.heap.size = w1.heap.size + 2 := by rw [hW0]; simp
  have hk2 : Boxed W0 w0.heap.size 90 (.slice pk (stS (lo, hj) []).length capk) := by rw [hW0]; exact (hk1.alloc _).alloc _
  have hlk0 : Blk W0 w1.heap.size 94 (slooksA (w0.heap.size + 1 + 1)) := by rw [hW0]; exact (Blk.new _ _ _).alloc _
  have hmv0 : Blk W0 (w0.heap.size + 1 + 1) 92 #[fk2V] := by rw [hW0]; exact (hmv.alloc _).alloc _
  have ho0 : W0.ownsRow w.heap.size 29 2 (.slice pk (stS (lo, hj) []).length capk) (stS (lo, hj) []).length ((stS (lo, hj) []).flatMap encS) := by rw [hW0]; exact owns_below (owns_below ho1 (below_box _)) (below_box _)
  have hbx0 : Boxed W0 (w1.heap.size + 1) 25 (.slice av l.length capv) := by rw [hW0]; have := Boxed.new (w1.alloc (.cells (slooksA (w0.heap.size + 1 + 1)) 94)) 25 (.slice av l.length capv); simpa using this
  have hbW : Below w.heap.size w W0 := by rw [hW0]; exact (hb1.alloc hb1.size _).alloc (by have := hb1.size; simp; omega) _
  rw [← hW0]
  clear hW0 hc1 hg1 hk1 ho1 hmv hb0 hk0
  have hbs : w.heap.size ≤ W0.heap.size := hbW.size
  refine wpIn_rangeFunc_ownH (α := Int × Mo) rfl (by omega) (gf := 92) (lb := #[.pointer (some ⟨w1.heap.size + 1, 0, none⟩)]) rfl trivial (enters_of Tryz.func92 (by kernel_rfl) rfl)
    (back_stops Fence.wide (3 - 1) trivial rfl (by omega) (w1.heap.size + 1) w.heap.size (.slice av l.length capv) l (by omega) w W0 (by omega) hbs hbx0.cell HM.out (Nat.le_refl _) hbW)
    (fun h k => h.trans k) (KpB.put hbs (by omega)) (Below.refl _ _) (fun _ => rfl)
    (SvC (lo, hj) w w0.heap.size (w0.heap.size + 1 + 1) w1.heap.size (.slice av l.length capv)) (fun _ _ _ => False) (SvC.own (lo, hj) w w0.heap.size (w0.heap.size + 1 + 1) w1.heap.size (.slice av l.length capv) W0.heap.size hbs) (fun _ _ _ _ _ h _ _ => h)
    ⟨HR0.out, ⟨_, hk2, ho0⟩, hmv0, hlk0, hbW, hbx0⟩
    (fun x a' W => ∃ Bx, Blk W Bx 63 (encM x.2.1) ∧ a' = { tmps := #[.agg #[.string (Str lo), .string (Str hj)], .slice av l.length capv, .pointer (some ⟨w.heap.size, 0, none⟩), undef, .slice none 0 0, .pointer (some ⟨w0.heap.size, 0, none⟩), .pointer (some ⟨w1.heap.size, 0, none⟩), undef, .pointer (some ⟨Bx, 0, none⟩),
      .agg #[.string (Str lo), .string (Str hj)], .slice pk (stS (lo, hj) []).length capk, slooksV (w0.heap.size + 1 + 1), .slice av l.length capv,
      .func (.func 92) #[] #[.pointer (some ⟨w1.heap.size + 1, 0, none⟩)], .int .i64 x.1, msgV x.2.1, undef, undef, undef, undef, undef], defers := [] }) ?_ ?assign ?body ?done ?stop
  · rintro x a' _ W W' row ⟨Bx, h2, rfl⟩ hg hr
    refine ⟨Bx, ?_, rfl⟩
    exact blk_kept h2 hg fun e => by
      obtain ⟨-, o, ho, hc⟩ := hr _ e.symm
      exact blk_notcells h2 ho hc
  case assign =>
    rintro lp pre x W K hi hK
    have hbl := hi.bl.size
    have hsz := hi.bs.lt
    gi_wp2
    refine hK _ _ ((KeepsOthers.alloc _ _).from _) ⟨(Below.refl _ W).alloc hbl _, (World.grownBy_alloc W _ none).block _ hsz (by simp)⟩ ((SvC.own _ _ _ _ _ _ _ hbs).alloc _ hi) ⟨W.heap.size, Blk.new _ _ _, rfl⟩
  case body =>
    rintro lp pre ⟨xi, m, hszm, hvm⟩ a' W hlp ⟨r, hr⟩ hi ⟨Bx, bX, rfl⟩ hlt
    change Blk W Bx 63 (encM m) at bX
    have hst := hi.run.step (xi, ⟨m, hszm, hvm⟩)
    have hsn := stS_snoc (lo, hj) pre (xi, ⟨m, hszm, hvm⟩)
    obtain ⟨p2, hp2⟩ : ∃ p2, p2 = pre ++ [(xi, (⟨m, hszm, hvm⟩ : Mo))] := ⟨_, rfl⟩
    rw [← hp2] at hst hsn ⊢
    clear hp2
    dsimp only at hsn
    obtain ⟨vk, b1, o1⟩ := hi.ex
    have hlen := hi.run.len
    have HB := Lib.hid (sbefore_w w.heap.size (w0.heap.size + 1 + 1) m vk (stS (lo, hj) pre) W (hi.mvb.c0 0 _ rfl) o1 (blk_apart (by decide) hi.mvb o1) hi.run.nrm hi.bl.size (by omega) hszm hvm (hi.run.ends.mono (by omega)))
    rw [← hsn] at HB
    have HST := Lib.hid hst
    have HI := Lib.hid hi
    have HO1 := Lib.hid o1
    have HB1 := Lib.hid b1
    have bL := hi.looks
    obtain ⟨n0, n1, n2, n3, n4, n5, n6, n7⟩ := bX.eightC
    have q0 := bL.c0 0 _ rfl
    have q1 := bL.c0 1 _ rfl
    have q2 := bL.c0 2 _ rfl
    have q3 := bL.c0 3 _ rfl
    have q4 := bL.c0 4 _ rfl
    have q5 := bL.c0 5 _ rfl
    have q6 := bL.c0 6 _ rfl
    dsimp only [slooksA, List.getElem_toArray, List.getElem_cons_succ, List.getElem_cons_zero] at q0 q1 q2 q3 q4 q5 q6
    have c1 := b1.cell
    obtain ⟨pk2, capk2, rfl, -⟩ := own_form o1
    clear hst hsn hi hlen bL o1 b1
    generalize (stS (lo, hj) pre).length = lk at *
    gi_wp2_with (refine ⟨trivial, ?_⟩; gi_at_call 49; go_must (refine (CallsIn.inRound lp (callsIn_wide.2 HB.out)).mono ?_; rintro e w2 ⟨v2, rfl, o2, t2⟩; have HO2 := Lib.hid o2; have HT2 := Lib.hid t2; obtain ⟨p2', cap2, rfl, -⟩ := own_form o2; have b2 := HB1.out.kept t2.1 (HB1.out.not_row (by decide) HO1.out); have c2 := b2.cell; have f2 := b2.frozen; clear n0 n1 n2 n3 n4 n5 n6 n7 q0 q1 q2 q3 q4 q5 q6 c1 t2 o2 b2))
    obtain ⟨z1, z2, z3⟩ := HI.out.next HST.out HB1.out HO1.out HO2.out HT2.out (by omega) (by omega) (by omega) (by omega)
    exact ⟨z3.from _, z2, z1⟩
  case done =>
    rintro Dd ys W hDl rfl hi hDk
    obtain ⟨vk, b1, o1⟩ := hi.ex
    have HO1 := Lib.hid o1
    have HBL := Lib.hid hi.bl
    have HDK := Lib.hid hDk
    obtain ⟨pk2, capk2, rfl, -⟩ := own_form o1
    have c1 := b1.cell
    clear hi o1 b1
    gi_wp2
    refine ⟨by simp, .inl ⟨_, _, rfl, run_takeDeferred HDK.out, ?_⟩⟩
    refine ⟨.slice pk2 (stS (lo, hj) (backM l l.length)).length capk2, ?_, _, rfl, ?_, ?_⟩
    · simp [results, Tryz.results19, go_sem]
    · exact ownsRow_putObj HO1.out _ HDK.out rfl
    · exact HBL.out.trans (belowK_b (w := w) (Nat.le_refl _) W Dd _ _ (Nat.le_trans hbs hDl) HDK.out rfl rfl)
  case stop =>
    rintro D c pre W _ _ h _
    exact h.elim

end Go.Proofs.YthncnijkgkeohaaGreat
