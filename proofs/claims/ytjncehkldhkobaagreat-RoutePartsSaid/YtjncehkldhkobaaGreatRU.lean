/-
  Walks of package route: what is left of a message of which a part goes.
-/
import Derived.Test.YtjncehkldhkobaaGreatRT
import Derived.Test.YtjncehkldhkobaaGreatNQJ
namespace Go.Proofs.YtjncehkldhkobaaGreat
open Go.RowKit Go.Sort Go.Shelf
set_option linter.unusedVariables false
/-- A list of messages handed back in memory of the call's own. -/
def OutM (B : Nat) (w : World) (l : List Ms) (e : Ending) (w' : World) : Prop := ∃ v', e = .returned v' ∧ OwnM w' B v' l ∧ Below B w w'
theorem append_msgs {w : World} {ops : Array Oper} {rest : List Oper} {o : Oper} {a : Act} {Q : Exit → Act → World → Prop} (hgd : o.guard = none) (s x : Operand)
    (ho : o.op = .call { callee := .builtin .append, args := #[s, x], argTypes := #[25, 25] }) (base : Nat) (v : Value) (l : List Ms) (hs : a.eval s = v) (hown : OwnM w base v l)
    (u : Value) (m : List Ms) (hx : a.eval x = u) (hp : IsMsgs w u m) (hl : l.length + m.length ≤ 1000000000) (hbase : base ≤ w.heap.size)
    (h : ∀ v' w', OwnM w' base v' (l ++ m) → Below base w w' → wpList Tryz.prog ops Q rest (a.put o.dst v') w') : wpList Tryz.prog ops Q (o :: rest) a w := by
  obtain ⟨i0, hi, hz0, hz1, hz2⟩ := info_parts infoM
  obtain ⟨p, cap, rfl, hlc, hcm, hpp⟩ := hp
  refine append_gen hgd s x 25 40 i0 (.agg #[.int .i64 0, .string ⟨#[]⟩, .string ⟨#[]⟩, .string ⟨#[]⟩, .string ⟨#[]⟩, .string ⟨#[]⟩, .string ⟨#[]⟩, .int .i64 0]) 8 112 Tryz.underlying25 hi hz0 hz1 hz2 rfl (by decide) (by decide) ho base v l.length _ hs hown p m.length cap (m.flatMap encML) hx (flatM_len m) ?_ (flatM_one m) hl hbase ?_
  · intro hm
    obtain ⟨b, off, rfl, hlt, hc⟩ := hpp (by rintro rfl; simp at hm)
    refine ⟨_, rfl, cells_at fun j u hj => ?_⟩
    have hj1 : j < m.length * 8 := by rw [← flatM_len]; exact (List.getElem?_eq_some_iff.1 hj).1
    have hi2 : j / 8 < m.length := by omega
    have g := flatM_get m (j / 8) (j % 8) hi2 (by omega)
    rw [show j / 8 * 8 + j % 8 = j by omega, hj] at g
    obtain ⟨c0, c1, c2, c3, c4, c5, c6, c7⟩ := hc (j / 8) hi2
    have e : ∀ k, j % 8 = k → off + j = off + j / 8 * 8 + k := fun k hk => by omega
    have hr : j % 8 = 0 ∨ j % 8 = 1 ∨ j % 8 = 2 ∨ j % 8 = 3 ∨ j % 8 = 4 ∨ j % 8 = 5 ∨ j % 8 = 6 ∨ j % 8 = 7 := by omega
    rcases hr with h | h | h | h | h | h | h | h
    all_goals
      rw [e _ h]
      rw [h] at g
      simp only [encML, List.getElem?_cons_zero, List.getElem?_cons_succ] at g
      rw [g]
      assumption
  · intro v' w' h2 h3
    refine h v' w' ?_ h3
    unfold OwnM
    rw [List.length_append, List.flatMap_append]; exact h2
open Go.RowKit Go.Sort
theorem spans_turned {w w' : World} {kv : Value} {K : List Sp} {row : Option Nat} (h : IsSpans w kv K) (hg : w.grownBy w' row) (hne : ∀ j, kv.ownBlock = some j → row ≠ some j) : IsSpans w' kv K := by
  obtain ⟨a, cap, rfl, h1, h2, h3⟩ := h
  refine ⟨a, cap, rfl, h1, h2, fun hK => ?_⟩
  obtain ⟨b, off, rfl, h4, h5⟩ := h3 hK
  have hb : w'.heap[b]? = w.heap[b]? := hg.block b h4 fun e => hne b rfl e.symm
  refine ⟨b, off, rfl, Nat.lt_of_lt_of_le h4 hg.size, fun i hi => ?_⟩
  obtain ⟨c1, c2⟩ := h5 i hi
  exact ⟨(World.cell?_of_block (a := ⟨b, _, none⟩) hb).trans c1, (World.cell?_of_block (a := ⟨b, _, none⟩) hb).trans c2⟩

/-- The message's box may be written, what came before the loop stays. -/
structure RsSt (w w2 : World) (m : Ms) (wr : World) : Prop where
  box : ∃ y, Blk wr w.heap.size 40 (encM (setSp m y))
  keep : ∀ b, b < w2.heap.size → b ≠ w.heap.size → wr.heap[b]? = w2.heap[b]?
  size : w2.heap.size ≤ wr.heap.size
  bel : Below w.heap.size w wr
theorem RsSt.alloc {w w2 wr : World} {m : Ms} (h : RsSt w w2 m wr) (o : Obj) : RsSt w w2 m (wr.alloc o) where
  box := by obtain ⟨y, hy⟩ := h.box; exact ⟨y, hy.alloc o⟩
  keep := fun b hb hne => by rw [Below.heap_alloc _ _ _ (Nat.lt_of_lt_of_le hb h.size)]; exact h.keep b hb hne
  size := Nat.le_trans h.size (by simp)
  bel := h.bel.alloc h.bel.size _
theorem RsSt.set {w w2 wr : World} {m : Ms} (h : RsSt w w2 m wr) (x : Sp) : RsSt w w2 m ((wr.setCell ⟨w.heap.size, 3, none⟩ (.string (Str x.1))).setCell ⟨w.heap.size, 4, none⟩ (.string (Str x.2))) where
  box := by obtain ⟨y, hy⟩ := h.box; exact ⟨x, (hy.setCell 3 _).setCell 4 _⟩
  keep := fun b hb hne => by rw [Below.heap_setCell _ _ _ _ hne, Below.heap_setCell _ _ _ _ hne]; exact h.keep b hb hne
  size := by simpa using h.size
  bel := (h.bel.setCell (Nat.le_refl _) _).setCell (Nat.le_refl _) _
theorem RsSt.below {w w2 wr wy : World} {m : Ms} (h : RsSt w w2 m wr) (hw : w.heap.size < w2.heap.size) (hb : Below w2.heap.size wr wy) : RsSt w w2 m wy where
  box := by obtain ⟨y, hy⟩ := h.box; exact ⟨y, hy.below hb hw⟩
  keep := fun b hl hne => (hb.block b hl).trans (h.keep b hl hne)
  size := Nat.le_trans h.size hb.size
  bel := h.bel.trans (hb.mono (Nat.le_of_lt hw))
theorem map_take (f : Sp → Ms) (l : List Sp) (k : Nat) (h : k < l.length) : (l.take (k + 1)).map f = (l.take k).map f ++ [f l[k]] := by
  rw [List.take_succ_eq_append_getElem h, List.map_append]; rfl

set_option maxRecDepth 100000 in
set_option maxHeartbeats 4000000 in
theorem restR_w (m : Ms) (s : Sp) (w : World) :
    Calls Tryz.prog 77 #[msgV m, strS s] w fun e w' => ∃ v', e = .returned v' ∧ IsMsgs w' v' (restR m s) ∧ Below w.heap.size w w' := by
  have mixed := mixedA
  have hsp := fun wx => hasSp_w m wx
  have hrl := restR_len m s
  obtain ⟨W0, hW0⟩ : ∃ W0, W0 = (w.alloc (.cells (encM m) 40)).alloc (.cells #[.string (Str s.1), .string (Str s.2)] 38) := ⟨_, rfl⟩
  have hg0 : Below w.heap.size w W0 := by rw [hW0]; exact ((Below.refl _ _).alloc (Nat.le_refl _) _).alloc (by simp) _
  have b1 : Blk W0 w.heap.size 40 (encM m) := by rw [hW0]; exact (Blk.new _ _ _).alloc _
  have b2 : Blk W0 (w.heap.size + 1) 38 #[.string (Str s.1), .string (Str s.2)] := by rw [hW0]; exact Blk.new' _ _ _ (by simp)
  have hs0 : W0.heap.size = w.heap.size + 2 := by rw [hW0]; simp
  have hR : restR m s = if hasSpB m then (minusS [(m.lo, m.hi)] [s]).map (setSp m) else [] := rfl
  rw [hR] at hrl ⊢
  have HM := Lib.hid (fun (W : World) n n' T T' (hn : n = W.heap.size) (hn' : n' = W.heap.size + 1) => minus_w (.slice (some ⟨n, 0, none⟩) 1 1) (.slice (some ⟨n', 0, none⟩) 1 1) [(m.lo, m.hi)] [s] ((W.alloc (.cells #[.string (Str m.lo), .string (Str m.hi)] T)).alloc (.cells #[.string (Str s.1), .string (Str s.2)] T')) ((one_spans (m.lo, m.hi) T hn).below (below_box _)) (one_spans s T' (by simp [hn'])) (by simp) (by simp))
  generalize minusS [(m.lo, m.hi)] [s] = D at *
  have HG0 := Lib.hid hg0
  have HB1 := Lib.hid b1
  have HB2 := Lib.hid b2
  have HW0 := Lib.hid hW0
  have HS0 := Lib.hid hs0
  generalize hasSpB m = hb at *
  have HSP := Lib.hid hsp
  clear hsp hg0 b1 b2 hW0 hR hs0
  simp only [strS]
  cases hb with
  | false =>
    rw [if_neg (by simp)]
    go_enter Tryz.func77, Tryz.ntmps77
    go_wp2_with (go_at_call 59; rw [← HW0.out]; (refine (HSP.out _).mono ?_); rintro e w2 ⟨rfl, hg2⟩; have HG2 : Hid (Below w.heap.size w w2) := Lib.hid (HG0.out.trans (hg2.below HG0.out.size)); clear hg2)
    go_ret
    exact ⟨_, rfl, no_msgs _, HG2.out⟩
  | true =>
    rw [if_pos rfl]
    rw [if_pos rfl, List.length_map] at hrl
    go_enter Tryz.func77, Tryz.ntmps77
    go_wp2_with (go_at_call 59; rw [← HW0.out]; (refine (HSP.out _).mono ?_); rintro e w1 ⟨rfl, hg1⟩; have HG1 : Hid (Below W0.heap.size W0 w1) := Lib.hid (hg1.below (Nat.le_refl _)); clear hg1; have hb3 := HB1.out.below HG1.out HB1.out.lt; have hb4 := HB2.out.below HG1.out HB2.out.lt; have d3 : w1.cell? ⟨w.heap.size, 3, none⟩ = some (.string (Str m.lo)) := hb3.c0 3 _ rfl; have d4 : w1.cell? ⟨w.heap.size, 4, none⟩ = some (.string (Str m.hi)) := hb3.c0 4 _ rfl; have e0 : w1.cell? ⟨w.heap.size + 1, 0, none⟩ = some (.string (Str s.1)) := hb4.c0 0 _ rfl; have e1 : w1.cell? ⟨w.heap.size + 1, 1, none⟩ = some (.string (Str s.2)) := hb4.c0 1 _ rfl; have z1 : w.heap.size + 1 < w1.heap.size := by { have h1 := HG1.out.size; have h2 := HS0.out; omega }; have z0 : w.heap.size < w1.heap.size := Nat.lt_of_succ_lt z1; clear hb3 hb4)
    go_wp2_with fail
    refine (HM.out _ _ _ _ _ (by first | rfl | simp) (by first | rfl | simp)).mono ?_
    rintro e w2 ⟨v2, rfl, ho2, hb2⟩
    have hbw : Below w1.heap.size w1 w2 := (keepA (keepA (Below.refl w1.heap.size w1) _) _).trans (hb2.mono (by simp; omega))
    have hz2 : w.heap.size < w2.heap.size := Nat.lt_of_lt_of_le z0 hbw.size
    have HZ2 := Lib.hid hz2
    have hI2 := IsSpans.owned ho2
    have hne : ∀ j, v2.ownBlock = some j → w.heap.size ≠ j := fun j hj he => by
      have := (ho2.lt j hj).1
      simp at this
      omega
    have HNE := Lib.hid hne
    have HI2 := Lib.hid hI2
    have HST : Hid (RsSt w w2 m w2) := Lib.hid ⟨⟨(m.lo, m.hi), (Blk.below (Blk.below HB1.out HG1.out HB1.out.lt) hbw z0)⟩, fun b _ _ => rfl, Nat.le_refl _, HG0.out.trans ((HG1.out.trans (hbw.mono HG1.out.size)).mono HG0.out.size)⟩
    obtain ⟨b2, off2, cap2, p2, rfl, hlc, hcm, -, -⟩ := hI2.form
    unfold maxLen at hcm
    clear ho2 hb2 hbw hz2 hI2 hne d3 d4 e0 e1 z0 z1 HM HB1 HB2 HG1 HG0 HW0 HS0 HSP
    go_wp2
    go_loopw [5, 18] (fun x i wr => ∃ k : Nat, k ≤ D.length ∧ i = .int .i64 k ∧ OwnM wr w2.heap.size x ((D.take k).map (setSp m)) ∧ RsSt w w2 m wr) (fun _ i _ => D.length - (intOf i).toNat)
    case atStart => exact ⟨0, Nat.zero_le _, rfl, World.ownsRow_nil _ _ _ _, HST.out⟩
    case round =>
      obtain ⟨k, hk, rfl, hown, hst⟩ := hrel
      have Hst := Lib.hid hst
      have Hown := Lib.hid hown
      clear hown hst HST
      by_cases hlt : k < D.length
      · obtain ⟨b, off, cap, he, hbl, hlz, y0, y1⟩ := span_cells HI2.out k hlt
        injection he with he1 he2 he3
        subst he1 he3
        clear he2
        have hbne : b ≠ w.heap.size := fun e => HNE.out b rfl e.symm
        have hbk := Hst.out.keep b hbl hbne
        have x0 := (World.cell?_of_block (a := ⟨b, off + k * 2, none⟩) hbk).trans y0
        have x1 := (World.cell?_of_block (a := ⟨b, off + k * 2 + 1, none⟩) hbk).trans y1
        have hltz : (k : Int) < (D.length : Int) := by omega
        have HTK := Lib.hid (map_take (setSp m) D k hlt)
        have hML : ((D.take k).map (setSp m)).length ≤ 2 := by rw [List.length_map, List.length_take]; omega
        have HS1 := Lib.hid (Hst.out.alloc (.cells #[.string (Str D[k].1), .string (Str D[k].2)] 38))
        clear y0 y1 hbk hbl
        generalize D[k] = x at *
        generalize (D.take k).map (setSp m) = left at *
        obtain ⟨y, hy⟩ := Hst.out.box
        have hwz : w.heap.size < wr.heap.size := Nat.lt_of_lt_of_le HZ2.out Hst.out.size
        have hsz2 := Hst.out.size
        have c0 : wr.cell? ⟨w.heap.size, 0, none⟩ = some (.int .i64 m.kind) := hy.c0 0 _ rfl
        have c1 : wr.cell? ⟨w.heap.size, 1, none⟩ = some (.string (Str m.key)) := hy.c0 1 _ rfl
        have c2 : wr.cell? ⟨w.heap.size, 2, none⟩ = some (.string (Str m.val)) := hy.c0 2 _ rfl
        have c3 : wr.cell? ⟨w.heap.size, 3, none⟩ = some (.string (Str y.1)) := hy.c0 3 _ rfl
        have c4 : wr.cell? ⟨w.heap.size, 4, none⟩ = some (.string (Str y.2)) := hy.c0 4 _ rfl
        have c5 : wr.cell? ⟨w.heap.size, 5, none⟩ = some (.string (Str m.src)) := hy.c0 5 _ rfl
        have c6 : wr.cell? ⟨w.heap.size, 6, none⟩ = some (.string (Str m.dst)) := hy.c0 6 _ rfl
        have c7 : wr.cell? ⟨w.heap.size, 7, none⟩ = some (.int .i64 m.n) := hy.c0 7 _ rfl
        have g3 := hy.free 3
        have g4 := hy.free 4
        clear hy
        have hzw : ((wr.setCell ⟨w.heap.size, 3, none⟩ (.string (Str x.1))).setCell ⟨w.heap.size, 4, none⟩ (.string (Str x.2))).heap.size = wr.heap.size := by simp
        have HZW := Lib.hid hzw
        have HS2 := Lib.hid (Hst.out.set x)
        have HO2 : Hid (OwnM ((wr.setCell ⟨w.heap.size, 3, none⟩ (.string (Str x.1))).setCell ⟨w.heap.size, 4, none⟩ (.string (Str x.2))) w2.heap.size u5 left) := Lib.hid (owns_keep Hown.out (fun b hb _ => by
          have h1 := HZ2.out
          rw [Below.heap_setCell _ _ _ _ (show b ≠ w.heap.size by omega), Below.heap_setCell _ _ _ _ (show b ≠ w.heap.size by omega)]))
        clear hzw HS1
        go_wp2_with (at_builtin; refine append_msg rfl _ _ rfl w2.heap.size _ left rfl ((HO2.out.below (below_box _)).below (below_box _)) ⟨wr.heap.size + 1, 0, none⟩ 1 (setSp m x) rfl (cells_new' _ (encML (setSp m x)) 40 (by simp)) (by omega) (by simp; omega) ?_; intro v3 w3 hown3 hb3)
        have Hown3 : Hid (OwnM w3 w2.heap.size v3 ((D.take (k + 1)).map (setSp m))) := Lib.hid (by rw [HTK.out]; exact hown3)
        have HS3 : Hid (RsSt w w2 m w3) := Lib.hid (((HS2.out.alloc _).alloc _).below HZ2.out hb3)
        clear hown3 hb3 c0 c1 c2 c3 c4 c5 c6 c7 g3 g4 x0 x1
        go_wp2
        go_roundw
        case rel => exact ⟨k + 1, by omega, by go_num, Hown3.out, HS3.out⟩
        case measure => simp [intOf]; omega
      · obtain rfl : k = D.length := by omega
        rw [List.take_length] at Hown
        go_wp2
        go_ret
        exact ⟨_, rfl, Hown.out.msgs, Hst.out.bel⟩

end Go.Proofs.YtjncehkldhkobaaGreat
