/-
  Walks: what reference 10's Valid asks of numbers, bounds, messages and pivots. Walks: reference 10's pivots and leaf. Walks: reference 10's leaf and Valid.
-/
import Derived.Test.YtmbfghbhajmpiaaGreatYDC
namespace Go.Proofs.YtmbfghbhajmpiaaGreat
open Go.RowKit Go.Sort
set_option linter.unusedVariables false

theorem keepBG {W wx wy : World} (h : Below W.heap.size W wx) (g : Grown wx wy) : Below W.heap.size W wy := h.trans (g.below h.size)
theorem keepBA {W wx : World} (h : Below W.heap.size W wx) (o : Obj) : Below W.heap.size W (wx.alloc o) := h.alloc h.size o
def inZ (lo hi n : Int) : Bool := decide (lo ≤ n) && decide (n ≤ hi)
set_option maxHeartbeats 1000000 in
theorem r10in_w (n lo hi : Int) (w : World) : Calls Tryz.prog 66 #[.int .i64 n, .int .i64 lo, .int .i64 hi] w fun e w' => e = .returned (.bool (inZ lo hi n)) ∧ Grown w w' := by
  have mixed := mixedA
  obtain ⟨q, hq⟩ : ∃ q, q = inZ lo hi n := ⟨_, rfl⟩
  rw [← hq]
  unfold inZ at hq
  by_cases h1 : lo ≤ n
  · by_cases h2 : n ≤ hi
    · have H : Hid (q = true) := Lib.hid (by rw [hq]; simp; omega)
      clear hq
      go_enter Tryz.func66, Tryz.ntmps66
      go_wp2
      go_ret
      exact ⟨ret_bool (by rw [H.out]), Grown.refl w⟩
    · have H : Hid (q = false) := Lib.hid (by rw [hq]; simp; omega)
      clear hq
      go_enter Tryz.func66, Tryz.ntmps66
      go_wp2
      go_ret
      exact ⟨ret_bool (by rw [H.out]; first | done | (symm; simp; done) | (symm; simp; omega)), Grown.refl w⟩
  · have H : Hid (q = false) := Lib.hid (by rw [hq]; simp; omega)
    clear hq
    go_enter Tryz.func66, Tryz.ntmps66
    go_wp2
    go_ret
    exact ⟨ret_bool (by rw [H.out]; first | done | (symm; simp; done) | (symm; simp; omega)), Grown.refl w⟩
set_option maxHeartbeats 1000000 in
theorem r10bound_w (a b : Int) (w : World) : Calls Tryz.prog 67 #[.agg #[.int .i64 a, .int .i64 b]] w fun e w' => e = .returned (.bool (rangeB (a, b))) ∧ Grown w w' := by
  have mixed := mixedA
  by_cases h1 : 0 ≤ a
  · by_cases h2 : a ≤ b
    · by_cases h3 : b ≤ 1000000000000000
      · have H : Hid (rangeB (a, b) = true) := Lib.hid (by unfold rangeB; simp; omega)
        go_enter Tryz.func67, Tryz.ntmps67
        go_wp2
        go_ret
        exact ⟨ret_bool (by rw [H.out]), (Grown.refl w).alloc _⟩
      · have H : Hid (rangeB (a, b) = false) := Lib.hid (by unfold rangeB; simp; omega)
        go_enter Tryz.func67, Tryz.ntmps67
        go_wp2
        go_ret
        exact ⟨ret_bool (by rw [H.out]), (Grown.refl w).alloc _⟩
    · have H : Hid (rangeB (a, b) = false) := Lib.hid (by unfold rangeB; simp; omega)
      go_enter Tryz.func67, Tryz.ntmps67
      go_wp2
      go_ret
      exact ⟨ret_bool (by rw [H.out]), (Grown.refl w).alloc _⟩
  · have H : Hid (rangeB (a, b) = false) := Lib.hid (by unfold rangeB; simp; omega)
    go_enter Tryz.func67, Tryz.ntmps67
    go_wp2
    go_ret
    exact ⟨ret_bool (by rw [H.out]), (Grown.refl w).alloc _⟩

/-- Spans laid as a literal: a row of the call's own. -/
theorem own_litS (l : List Sp) (W : World) (B g : Nat) (hg : g = W.heap.size) (hB : B ≤ g) (hl : l.length ≤ 100) : (W.alloc (.cells (l.flatMap encS).toArray 41)).ownsRow B 41 2 (.slice (some ⟨g, 0, none⟩) l.length l.length) l.length (l.flatMap encS) := by
  subst hg
  exact ⟨flatS_len l, .inr ⟨W.heap.size, l.length, (l.flatMap encS).toArray, rfl, hB, Blk.new _ _ _, Nat.le_refl _, by unfold maxLen; omega, by rw [List.size_toArray]; exact flatS_len l, by rw [List.take_of_length_le (by rw [flatS_len]; exact Nat.le_refl _)]⟩⟩
/-- The spans come back in a row of their own. -/
def OwnSp (w : World) (l : List Sp) (e : Ending) (w' : World) : Prop := ∃ v, e = .returned v ∧ w'.ownsRow w.heap.size 41 2 v l.length (l.flatMap encS) ∧ Grown w w'
set_option maxRecDepth 100000 in
set_option maxHeartbeats 2000000 in
theorem rreadsO_w (m : Ms) (w : World) (hz : SizeM m) (hk : OneToSix m) : Calls Tryz.prog 142 #[msgV m] w (OwnSp w (readsS m)) := by
  obtain ⟨z1, z2, z3, z4, z5, z6⟩ := hz
  have hB : MBlk (w.alloc (.cells (encM m) 46)) w.heap.size m := Blk.new _ _ _
  obtain ⟨c0, c1, c2, c3, c4, c5, c6, c7⟩ := hB.plain
  have HP := Lib.hid (fun wr => rprefix_w m.src wr (by omega))
  have hks := hk.cases
  clear hB hk z1 z2 z3 z4 z5 z6
  rcases hks with h | h | h | h | h | h
  all_goals
    have HR := Lib.hid (show readsS m = _ by unfold readsS; simp only [h]; rfl)
    rw [h] at c0
    rw [HR.out]
    go_enter Tryz.func142, Tryz.ntmps142
  · go_wp2
    go_ret
    exact ⟨_, rfl, own_litS [] _ _ _ (by simp) (by simp) (by simp), ((Grown.refl w).alloc _).alloc _⟩
  · go_wp2
    go_ret
    exact ⟨_, rfl, own_litS [] _ _ _ (by simp) (by simp) (by simp), ((Grown.refl w).alloc _).alloc _⟩
  · go_wp2
    go_ret
    exact ⟨_, rfl, own_litS [] _ _ _ (by simp) (by simp) (by simp), ((Grown.refl w).alloc _).alloc _⟩
  · go_wp2_with fail
    refine (HP.out _).mono ?_
    rintro e w1 ⟨rfl, hg⟩
    have Hg := Lib.hid hg
    have hz := Nat.le_trans (below_box _).size (hg.below (Nat.le_refl _)).size
    clear hg
    go_wp2
    go_ret
    exact ⟨_, rfl, own_litS [preS m.src] _ _ _ rfl hz (by simp), (((Grown.refl w).alloc _).trans Hg.out).alloc _⟩
  · go_wp2_with fail
    refine (HP.out _).mono ?_
    rintro e w1 ⟨rfl, hg⟩
    have Hg := Lib.hid hg
    have hz := Nat.le_trans (below_box _).size (hg.below (Nat.le_refl _)).size
    clear hg
    go_wp2
    go_ret
    exact ⟨_, rfl, own_litS [preS m.src] _ _ _ rfl hz (by simp), (((Grown.refl w).alloc _).trans Hg.out).alloc _⟩
  · go_wp2
    go_ret
    exact ⟨_, rfl, own_litS [(m.lo, m.hi)] _ _ _ (by simp) (by simp) (by simp), ((Grown.refl w).alloc _).alloc _⟩

theorem spans_newsI {w : World} {p : Option Addr} {n cap : Nat} {m : List Sp} (hp : IsSpans w (.slice p n cap) m) (hm : m ≠ []) : n = m.length ∧ ∃ ad, p = some ad ∧ ∀ j u, (m.flatMap encS)[j]? = some u → w.cell? (ad.add j) = some u := by
  obtain ⟨p', cap', he, hlc, hcm, hpp⟩ := hp
  cases he
  refine ⟨rfl, ?_⟩
  obtain ⟨b, off, rfl, hlt, hc⟩ := hpp hm
  refine ⟨_, rfl, cells_at fun j u hj => ?_⟩
  have hj1 : j < m.length * 2 := by rw [← flatS_len]; exact (List.getElem?_eq_some_iff.1 hj).1
  have hi2 : j / 2 < m.length := by omega
  have g := flatS_get m (j / 2) hi2
  have c := hc (j / 2) hi2
  have hcase : j = j / 2 * 2 ∨ j = j / 2 * 2 + 1 := by omega
  rcases hcase with h | h
  · rw [h] at hj ⊢
    rw [g.1] at hj
    rw [← Option.some.inj hj]; exact c.1
  · rw [h] at hj ⊢
    rw [g.2] at hj
    rw [← Option.some.inj hj]; exact c.2
set_option maxRecDepth 100000 in
/-- Spans more, in a region: the world grows by the row alone. -/
theorem step_spansI {ops : Array Oper} {o : Oper} {a : Act} {w : World} {K : Act → World → Prop} {Q : Exit → Act → World → Prop} {E : Prop} (hg : o.guard = none) (s x : Operand)
    (hop : o.op = .call { callee := .builtin .append, args := #[s, x], argTypes := #[73, 73] }) (base : Nat) (v : Value) (l : List Sp) (hs : a.eval s = v) (hown : w.ownsRow base 41 2 v l.length (l.flatMap encS))
    (p : Option Addr) (n cap : Nat) (m : List Sp) (hx : a.eval x = .slice p n cap) (hp : IsSpans w (.slice p n cap) m) (hm : m ≠ []) (hl : l.length + m.length ≤ 1000000) (hbase : base ≤ w.heap.size)
    (hK : ∀ v' w', w'.ownsRow base 41 2 v' (l ++ m).length ((l ++ m).flatMap encS) → w.grownBy w' v.ownBlock → K (a.put o.dst v') w') : if Region.wanted o (yielded ops a.tmps) = true then Oper.wp Tryz.prog o a w K Q else E := by
  obtain ⟨i0, hi, hz0, hz1, hz2⟩ := info_parts infoS
  obtain ⟨rfl, ad, rfl, hn⟩ := spans_newsI hp hm
  have hw : Region.wanted o (yielded ops a.tmps) = true := by simp [Region.wanted, hg]
  rw [if_pos hw]
  obtain ⟨v', w', hrun, r2, r3, -⟩ := run_append_own (P := Tryz.prog) w base 73 o.type 41 i0 (.agg #[.string ⟨#[]⟩, .string ⟨#[]⟩]) 2 32 Tryz.underlying73 hi hz0 hz1 hz2 rfl (by decide) v l.length _ hown ad m.length cap (m.flatMap encS) (flatS_len m) hn (flatS_one m) (by unfold maxLen; omega) (by omega) hbase
  unfold Oper.wp
  simp [execOp, hop, resolve, invoke, builtin, hs, hx, hrun, Result.andThen]
  refine hK v' w' ?_ r3
  rw [List.length_append, List.flatMap_append]; exact r2
theorem writes_ne (m : Ms) (hk : OneToSix m) : writesS m ≠ [] := by
  rcases hk.cases with h | h | h | h | h | h <;> (unfold writesS; simp only [h]; simp)
theorem rw_lenI (m : Ms) : (readsS m).length ≤ 2 ∧ (writesS m).length ≤ 2 := by
  constructor
  · unfold readsS; repeat' split
    all_goals simp
  · unfold writesS; repeat' split
    all_goals simp
def SpsI (W : World) (v : Value) (l : List Sp) (wx : World) : Prop := ∃ a c, v = .slice a l.length c ∧ IsSpans wx (.slice a l.length c) l ∧ Below W.heap.size W wx
theorem span_cellsI {w : World} {v : Value} {l : List Sp} (h : IsSpans w v l) (i : Nat) (hi : i < l.length) : ∃ b off cap, v = .slice (some ⟨b, off, none⟩) l.length cap ∧ b < w.heap.size ∧ (l.length : Int) ≤ 9223372036854775807 ∧
    w.cell? ⟨b, off + i * 2, none⟩ = some (.string (Str l[i].1)) ∧ w.cell? ⟨b, off + i * 2 + 1, none⟩ = some (.string (Str l[i].2)) := by
  obtain ⟨a, cap, rfl, h1, h2, h3⟩ := h
  obtain ⟨b, off, rfl, h4, h5⟩ := h3 (by rintro rfl; simp at hi)
  unfold maxLen at h2
  exact ⟨b, off, cap, rfl, h4, by omega, h5 i hi⟩
set_option maxRecDepth 100000 in
set_option maxHeartbeats 8000000 in
theorem inside10_w (m : Ms) (s : Sp) (w : World) (hz : SizeM m) (hk : OneToSix m) :
    Calls Tryz.prog 68 #[msgV m, .agg #[.string (Str s.1), .string (Str s.2)]] w fun e w' => e = .returned (.bool (staysB s m)) ∧ Below w.heap.size w w' := by
  have mixed := mixedA
  have hR := fun wx => rreadsO_w m wx hz hk
  have hW := fun wx => rwrites_w m wx hz hk
  have hrw := rw_lenI m
  have hne := writes_ne m hk
  have hC := fun b wx => rcovers_w s b wx
  obtain ⟨W1, hW1⟩ : ∃ W1, W1 = (w.alloc (.cells (encM m) 46)).alloc (.cells #[.string (Str s.1), .string (Str s.2)] 41) := ⟨_, rfl⟩
  have hL : staysB s m = (readsS m ++ writesS m).all fun t => coversB s t := by rw [List.all_append]; rfl
  rw [hL]
  have hB1 : Blk W1 w.heap.size 46 (encM m) := by rw [hW1]; exact (Blk.new _ _ _).alloc _
  have hB2 : Blk W1 (w.heap.size + 1) 41 #[.string (Str s.1), .string (Str s.2)] := by rw [hW1]; exact Blk.new' _ _ _ (by simp)
  have hg1 : Below w.heap.size w W1 := by rw [hW1]; exact ((Below.refl _ _).alloc (Nat.le_refl _) _).alloc (by simp) _
  have hx : ∀ i x, (encM m)[i]? = some x → ∀ wx, Below W1.heap.size W1 wx → wx.cell? ⟨w.heap.size, i, none⟩ = some x := fun i x hi wx hg => (Blk.below hB1 hg hB1.lt).c0 i x hi
  have x0 : ∀ wx, Below W1.heap.size W1 wx → wx.cell? ⟨w.heap.size, 0, none⟩ = some (.int .i64 m.kind) := hx 0 _ rfl
  have x1 : ∀ wx, Below W1.heap.size W1 wx → wx.cell? ⟨w.heap.size, 1, none⟩ = some (.string (Str m.key)) := hx 1 _ rfl
  have x2 : ∀ wx, Below W1.heap.size W1 wx → wx.cell? ⟨w.heap.size, 2, none⟩ = some (.string (Str m.val)) := hx 2 _ rfl
  have x3 : ∀ wx, Below W1.heap.size W1 wx → wx.cell? ⟨w.heap.size, 3, none⟩ = some (.string (Str m.lo)) := hx 3 _ rfl
  have x4 : ∀ wx, Below W1.heap.size W1 wx → wx.cell? ⟨w.heap.size, 4, none⟩ = some (.string (Str m.hi)) := hx 4 _ rfl
  have x5 : ∀ wx, Below W1.heap.size W1 wx → wx.cell? ⟨w.heap.size, 5, none⟩ = some (.string (Str m.src)) := hx 5 _ rfl
  have x6 : ∀ wx, Below W1.heap.size W1 wx → wx.cell? ⟨w.heap.size, 6, none⟩ = some (.string (Str m.dst)) := hx 6 _ rfl
  have x7 : ∀ wx, Below W1.heap.size W1 wx → wx.cell? ⟨w.heap.size, 7, none⟩ = some (.int .i64 m.n) := hx 7 _ rfl
  have HS0 : Hid (Below W1.heap.size W1 W1) := Lib.hid (Below.refl _ _)
  generalize readsS m = R at *
  generalize writesS m = Wr at *
  have HR := Lib.hid hR
  have HW := Lib.hid hW
  have HC := Lib.hid hC
  have HG1 := Lib.hid hg1
  have HB2 := Lib.hid hB2
  have HW1 := Lib.hid hW1
  have Hne := Lib.hid hne
  clear hR hW hC hB1 hB2 hg1 hx hL hW1 hz hk hne
  simp only [strS] at HC
  go_enter Tryz.func68, Tryz.ntmps68
  go_wp2_with fail
  rw [← HW1.out]
  go_cut [5] (fun s5 wx => Hid (SpsI W1 s5 (R ++ Wr) wx))
  case first =>
    go_region_held3 (fun wx => Below W1.heap.size W1 wx)
      (repeat (first | with_reducible assumption | with_reducible exact HS0.out | with_reducible refine Below.drew ?_ | with_reducible refine keepBA ?_ _))
      (first
        | (go_at_call 142; (refine (HR.out _).mono ?_); rintro e2 y2 ⟨v2, rfl, hR2, hG2⟩; have hS2 : Below W1.heap.size W1 y2 := keepBG (by repeat (first | with_reducible assumption | with_reducible exact HS0.out | with_reducible refine Below.drew ?_)) hG2; have hO2 := owns_baseG (C := W1.heap.size) (Below.size (by repeat (first | with_reducible assumption | with_reducible exact HS0.out | with_reducible refine Below.drew ?_))) hR2)
        | (go_at_call 127; (refine (HW.out _).mono ?_); rintro e3 y3 ⟨v3, rfl, hW3, hG3⟩; obtain ⟨pW, cW, rfl, -⟩ := id hW3; have hS3 : Below W1.heap.size W1 y3 := keepBG (by repeat (first | with_reducible assumption | with_reducible exact HS0.out | with_reducible refine Below.drew ?_)) hG3; have hO3 := owns_below hO2 (hG3.below (Nat.le_refl _)))
        | (refine step_spansI rfl _ _ rfl W1.heap.size v2 R rfl hO3 pW Wr.length cW Wr rfl hW3 Hne.out (by omega) hS3.size ?_; intro v5 y5 hO5 hT5; have hS5 : Below W1.heap.size W1 y5 := Below.grown hS3 hT5 hS3.size (fun j hj => (hO3.lt j hj).1))
        | fail "no arm")
    all_goals (go_wp2_with fail; go_meet)
    all_goals
      obtain ⟨a5, c5, rfl, -⟩ := IsSpans.owned hO5
      exact Lib.hid ⟨a5, c5, rfl, IsSpans.owned hO5, hS5⟩
  case rest =>
    clear x0 x1 x2 x3 x4 x5 x6 x7 HR HW
    obtain ⟨a5, c5, rfl, h5, hb5⟩ := hcut.out
    have H5 := Lib.hid h5
    have HBC := Lib.hid (HG1.out.trans (hb5.mono HG1.out.size))
    have HBS := Lib.hid (HB2.out.below hb5 HB2.out.lt)
    have hll : (R ++ Wr).length ≤ 4 := by rw [List.length_append]; omega
    clear hcut h5 hb5
    generalize hLL : R ++ Wr = L at *
    have HLL := Lib.hid hLL
    clear hLL
    have hLz : (L.length : Int) ≤ 9223372036854775807 := by omega
    go_wp2
    go_loopw [6] (fun i wr => ∃ k : Nat, k ≤ L.length ∧ i = .int .i64 k ∧ (L.take k).all (fun t => coversB s t) = true ∧ Below wc.heap.size wc wr) (fun i _ => L.length - (intOf i).toNat)
    case atStart => exact ⟨0, Nat.zero_le _, rfl, by simp, Below.refl _ _⟩
    case round =>
      obtain ⟨k, hk, rfl, hall, hbel⟩ := hrel
      have Hbel := Lib.hid hbel
      have hsz := hbel.size
      have HALL := Lib.hid hall
      clear hbel hall
      by_cases hlt : k < L.length
      · have hltz : (k : Int) < (L.length : Int) := by omega
        obtain ⟨b, off, cap', he, hbl, hlz, y0, y1⟩ := span_cellsI (H5.out.below Hbel.out) k hlt
        injection he with he1 he2 he3
        subst he1 he3
        clear he2
        have HT := Lib.hid (show (L.take (k + 1)).all (fun t => coversB s t) = ((L.take k).all (fun t => coversB s t) && coversB s L[k]) by rw [List.take_succ_eq_append_getElem hlt, List.all_append]; simp)
        have HN := Lib.hid (fun (h : coversB s L[k] = false) => (List.all_eq_false.2 ⟨L[k], List.getElem_mem hlt, by rw [h]; simp⟩ : L.all (fun t => coversB s t) = false))
        have HC1 := Lib.hid (fun wx => HC.out L[k] wx)
        generalize L[k] = x at *
        obtain ⟨xa, xb⟩ := x
        dsimp only at y0 y1
        generalize hq : coversB s (xa, xb) = q at *
        have hx0 : ∀ wx, Below wr.heap.size wr wx → wx.cell? ⟨w.heap.size + 1, 0, none⟩ = some (.string (Str s.1)) := fun wx hx => ((HBS.out.below Hbel.out HBS.out.lt).below hx (Nat.lt_of_lt_of_le HBS.out.lt hsz)).c0 0 _ rfl
        have hx1 : ∀ wx, Below wr.heap.size wr wx → wx.cell? ⟨w.heap.size + 1, 1, none⟩ = some (.string (Str s.2)) := fun wx hx => ((HBS.out.below Hbel.out HBS.out.lt).below hx (Nat.lt_of_lt_of_le HBS.out.lt hsz)).c0 1 _ rfl
        have hy0 : ∀ wx, Below wr.heap.size wr wx → wx.cell? ⟨b, off + k * 2, none⟩ = some (.string (Str xa)) := fun wx hx => (hx.cell (p := ⟨b, off + k * 2, none⟩) hbl).trans y0
        have hy1 : ∀ wx, Below wr.heap.size wr wx → wx.cell? ⟨b, off + k * 2 + 1, none⟩ = some (.string (Str xb)) := fun wx hx => (hx.cell (p := ⟨b, off + k * 2 + 1, none⟩) hbl).trans y1
        have HL1 : Hid (Below wr.heap.size wr wr) := Lib.hid (Below.refl _ _)
        clear y0 y1 hq HC
        cases q
        all_goals
          go_wp2_with fail
          go_region_held3 (fun wx => Below wr.heap.size wr wx)
            (repeat (first | with_reducible assumption | with_reducible exact HL1.out | with_reducible refine Below.drew ?_ | with_reducible refine keepBA ?_ _))
            (first
              | (go_at_call 143; (refine (HC1.out _).mono ?_); rintro e2 y2 ⟨rfl, hG2⟩; have hS2 : Below wr.heap.size wr y2 := keepBG (by repeat (first | with_reducible assumption | with_reducible exact HL1.out | with_reducible refine Below.drew ?_)) hG2)
              | fail "no arm")
        · have HF : Hid (Below w.heap.size w y2) := Lib.hid ((HBC.out.trans (Hbel.out.mono HBC.out.size)).trans (hS2.mono (Nat.le_trans HBC.out.size hsz)))
          clear hS2 hG2 hx0 hx1 hy0 hy1
          go_wp2
          go_ret
          exact ⟨ret_bool (by rw [HLL.out, HN.out trivial]), HF.out⟩
        · have HF : Hid (Below wc.heap.size wc y2) := Lib.hid (Hbel.out.trans (hS2.mono Hbel.out.size))
          clear hS2 hG2 hx0 hx1 hy0 hy1
          go_wp2
          go_roundw
          case rel => exact ⟨k + 1, by omega, by go_num, by rw [HT.out, HALL.out]; rfl, HF.out⟩
          case measure => simp [intOf]; omega
      · obtain rfl : k = L.length := by omega
        rw [List.take_length] at HALL
        go_wp2
        go_ret
        exact ⟨ret_bool (by rw [HLL.out, HALL.out]), HBC.out.trans (Hbel.out.mono HBC.out.size)⟩

end Go.Proofs.YtmbfghbhajmpiaaGreat
namespace Go.Proofs.YtmbfghbhajmpiaaGreat
open Go.RowKit Go.Sort
set_option linter.unusedVariables false

/-- The text before place k: the span's Lo at first. -/
def prevP (lo : Bs) (ps : List Bs) (k : Nat) : Bs := if k = 0 then lo else ps.getD (k - 1) []
theorem prevP_succ (lo : Bs) (ps : List Bs) (k : Nat) (h : k < ps.length) : prevP lo ps (k + 1) = ps[k] := by
  unfold prevP
  rw [if_neg (by omega), Nat.add_sub_cancel, List.getD_eq_getElem?_getD, List.getElem?_eq_getElem h]; rfl
theorem hasB_facts {lo hi q : Bs} (h : hasB (lo, hi) q = true) (hlo : Op.bytesLess lo q = true) (hh : hi ≠ []) : Op.bytesLess q hi = true := by
  unfold hasB at h
  simp only [Bool.and_eq_true, Bool.or_eq_true] at h
  rcases h.2 with h2 | h2
  · exact absurd (by simpa using h2) hh
  · exact h2
theorem hasB_no {lo hi q : Bs} (h : hasB (lo, hi) q = false) (hlo : Op.bytesLess lo q = true) : hi ≠ [] ∧ Op.bytesLess q hi = false := by
  have hl := less_asymm hlo
  unfold hasB at h
  rw [show Op.bytesLess q (lo, hi).1 = false from hl, Bool.not_false, Bool.true_and, Bool.or_eq_false_iff] at h
  exact ⟨by rintro rfl; exact absurd h.1 (by simp), h.2⟩
theorem lt_all {a b : Bs} (h : Op.bytesLess a b = true) : Op.bytesLess b a = false ∧ (b == a) = false ∧ (a == b) = false := by
  obtain ⟨h1, h2⟩ := less_facts h
  exact ⟨h1, h2, by rw [Bool.beq_comm]; exact h2⟩
theorem nlt_all {a b : Bs} (h : Op.bytesLess a b = false) : (Op.bytesLess b a || b == a) = true ∧ (Op.bytesLess b a || a == b) = true := by
  have h1 := nless_facts h
  exact ⟨h1, by rw [show (a == b) = (b == a) from Bool.beq_comm]; exact h1⟩
theorem not_through {a p q : Bs} (h : Op.bytesLess a p = true) (hn : Op.bytesLess a q = false) : Op.bytesLess p q = false := by
  cases hc : Op.bytesLess p q with
  | false => rfl
  | true => have := less_trans _ _ _ h hc; rw [hn] at this; cases this
theorem belowQ (W : World) (n m : Nat) : Below W.heap.size W ((W.drewN n).drewN m) := (below_drewN W n).trans (below_drewN (W.drewN n) m)
set_option maxRecDepth 100000 in
set_option maxHeartbeats 4000000 in
theorem pivots10_w (v : Value) (ps : List Bs) (lo hi : Bs) (w : World) (h : IsStrs w v ps) :
    Calls Tryz.prog 65 #[v, .agg #[.string (Str lo), .string (Str hi)]] w fun e w' => e = .returned (.bool (pivB (lo, hi) lo ps)) ∧ Below w.heap.size w w' := by
  have mixed := mixedA
  have H := Lib.hid h
  obtain ⟨a, cap, rfl, hlc, hcm, -⟩ := h
  unfold maxLen at hcm
  obtain ⟨W1, hW1⟩ : ∃ W1, W1 = w.alloc (.cells #[.string (Str lo), .string (Str hi)] 41) := ⟨_, rfl⟩
  have HB : Hid (Blk W1 w.heap.size 41 #[.string (Str lo), .string (Str hi)]) := Lib.hid (by rw [hW1]; exact Blk.new _ _ _)
  have HG : Hid (Below w.heap.size w W1) := Lib.hid (by rw [hW1]; exact below_box _)
  have HW1 := Lib.hid hW1
  clear hW1
  obtain ⟨R, hR⟩ : ∃ R, R = pivB (lo, hi) lo ps := ⟨_, rfl⟩
  rw [← hR]
  have HR := Lib.hid hR
  clear hR
  go_enter Tryz.func65, Tryz.ntmps65
  go_wp2_with fail
  rw [← HW1.out]
  go_loopw [5] (fun i wr => ∃ k n : Nat, k ≤ ps.length ∧ i = .int .i64 k ∧ wr = W1.drewN n ∧ Hid (R = pivB (lo, hi) (prevP lo ps k) (ps.drop k)) ∧ Hid (k ≠ 0 → Op.bytesLess lo (prevP lo ps k) = true)) (fun i _ => ps.length - (intOf i).toNat)
  case atStart => exact ⟨0, 0, Nat.zero_le _, rfl, rfl, Lib.hid (by rw [HR.out]; rfl), Lib.hid (fun h => absurd rfl h)⟩
  case round =>
    obtain ⟨k, n, hk, rfl, rfl, hp, hlp⟩ := hrel
    have x0 := fun n => (show (W1.drewN n).cell? ⟨w.heap.size, 0, none⟩ = some (.string (Str lo)) from HB.out.c0 0 _ rfl)
    have x1 := fun n => (show (W1.drewN n).cell? ⟨w.heap.size, 1, none⟩ = some (.string (Str hi)) from HB.out.c0 1 _ rfl)
    by_cases hlt : k < ps.length
    · obtain ⟨bb, off, cap', he, hbl, hlz, y0⟩ := at_str (H.out.below HG.out) k hlt
      have hltz : (k : Int) < (ps.length : Int) := by omega
      have Hq : Hid (R = (Op.bytesLess (prevP lo ps k) ps[k] && (hasB (lo, hi) ps[k] && pivB (lo, hi) ps[k] (ps.drop (k + 1))))) := Lib.hid (by rw [hp.out, List.drop_eq_getElem_cons hlt]; rfl)
      have HP := Lib.hid (prevP_succ lo ps k hlt)
      by_cases hk0 : k = 0
      · subst hk0
        injection he with he1 he2 he3
        subst he1 he3
        clear he2 hp hlp
        have hpz : prevP lo ps 0 = lo := rfl
        rw [hpz] at Hq
        clear hpz
        generalize ps[0] = q at *
        have c0 := fun n => (show (W1.drewN n).cell? ⟨bb, off + 0, none⟩ = some (.string (Str q)) from y0)
        have c1 := fun n => (show (W1.drewN n).cell? ⟨bb, off, none⟩ = some (.string (Str q)) from y0)
        clear y0
        cases hA : Op.bytesLess lo q with
        | false =>
          obtain ⟨a1, a2⟩ := nlt_all hA
          have Hr : Hid (R = false) := Lib.hid (by rw [Hq.out, hA]; rfl)
          clear Hq HP hA
          go_wp2_with fail
          go_quiet (fail)
          go_wp2
          go_ret
          exact ⟨ret_bool (by rw [Hr.out]), HG.out.trans ((belowQ _ _ _).mono HG.out.size)⟩
        | true =>
          obtain ⟨a1, a2, a3⟩ := lt_all hA
          cases hB : hasB (lo, hi) q with
          | false =>
            obtain ⟨b0, b1⟩ := hasB_no hB hA
            have b2 : hi.isEmpty = false := ne_isEmpty b0
            obtain ⟨b3, b4⟩ := nlt_all b1
            have Hr : Hid (R = false) := Lib.hid (by rw [Hq.out, hB]; simp)
            clear Hq HP hA hB b0
            go_wp2_with fail
            go_quiet (fail)
            go_wp2
            go_ret
            exact ⟨ret_bool (by rw [Hr.out]), HG.out.trans ((belowQ _ _ _).mono HG.out.size)⟩
          | true =>
            rw [hB, Bool.true_and] at Hq
            cases hE : hi.isEmpty with
            | true =>
              have HN : Hid (R = pivB (lo, hi) (prevP lo ps (0 + 1)) (ps.drop (0 + 1))) := Lib.hid (by rw [HP.out, Hq.out, hA]; rfl)
              have HN2 : Hid (0 + 1 ≠ 0 → Op.bytesLess lo (prevP lo ps (0 + 1)) = true) := Lib.hid (fun _ => by rw [HP.out]; exact hA)
              clear Hq HP hA hB
              go_wp2_with fail
              go_quiet (fail)
              go_wp2
              go_roundw
              case rel => exact ⟨0 + 1, n + nq, by omega, by go_num, rfl, HN, HN2⟩
              case measure => simp [intOf]; omega
            | false =>
              obtain ⟨b1, b2, b3⟩ := lt_all (hasB_facts hB hA (by rintro rfl; cases hE))
              have b4 := hasB_facts hB hA (by rintro rfl; cases hE)
              have HN : Hid (R = pivB (lo, hi) (prevP lo ps (0 + 1)) (ps.drop (0 + 1))) := Lib.hid (by rw [HP.out, Hq.out, hA]; rfl)
              have HN2 : Hid (0 + 1 ≠ 0 → Op.bytesLess lo (prevP lo ps (0 + 1)) = true) := Lib.hid (fun _ => by rw [HP.out]; exact hA)
              clear Hq HP hA hB
              go_wp2_with fail
              go_quiet (fail)
              go_wp2
              go_roundw
              case rel => exact ⟨0 + 1, n + nq, by omega, by go_num, rfl, HN, HN2⟩
              case measure => simp [intOf]; omega
      · obtain ⟨j, rfl⟩ : ∃ j, k = j + 1 := ⟨k - 1, by omega⟩
        have hj : j < ps.length := by omega
        have HLP : Hid (Op.bytesLess lo ps[j] = true) := Lib.hid (by have h := hlp.out hk0; rw [prevP_succ lo ps j hj] at h; exact h)
        rw [prevP_succ lo ps j hj] at Hq
        obtain ⟨bb', off', cap'', he', hbl', hlz', y1⟩ := at_str (H.out.below HG.out) j hj
        injection he with he1 he2 he3
        subst he1 he3
        injection he' with he1' he2' he3'
        injection he1' with he1'
        injection he1' with he4 he5
        subst he4 he5
        clear he2 he2' he3' hp hlp hbl' hlz'
        generalize ps[j + 1] = q at *
        generalize ps[j] = p at *
        have c0 := fun n => (show (W1.drewN n).cell? ⟨bb, off + (j + 1), none⟩ = some (.string (Str q)) from y0)
        have d0 := fun n => (show (W1.drewN n).cell? ⟨bb, off + j, none⟩ = some (.string (Str p)) from y1)
        have c2 := fun n => (show (W1.drewN n).cell? ⟨bb, off + ((j : Int) + 1).toNat, none⟩ = some (.string (Str q)) from by rw [show ((j : Int) + 1).toNat = j + 1 by omega]; exact y0)
        clear y0 y1
        have hw1 : IntKind.i64.wrap (((j + 1 : Nat) : Int) - 1) = (j : Int) := by rw [IntKind.wrap_i64]; omega
        have hw2 : ((j + 1 : Nat) : Int) - 1 = (j : Int) := by omega
        have hw3 : IntKind.i64.wrap ((j : Int) + 1 - 1) = (j : Int) := by rw [IntKind.wrap_i64]; omega
        have hz1 : (j : Int) < (ps.length : Int) := by omega
        have hz2 : (j : Int) + 1 < (ps.length : Int) := by omega
        have hz3 : (0 : Int) < ((j + 1 : Nat) : Int) := by omega
        have hz4 : (0 : Int) < (j : Int) + 1 := by omega
        cases hA : Op.bytesLess lo q with
        | false =>
          obtain ⟨a1, a2⟩ := nlt_all hA
          have Hr : Hid (R = false) := Lib.hid (by rw [Hq.out, not_through HLP.out hA]; rfl)
          clear Hq HP hA HLP
          go_wp2_with fail
          go_quiet (fail)
          go_wp2
          go_ret
          exact ⟨ret_bool (by rw [Hr.out]), HG.out.trans ((belowQ _ _ _).mono HG.out.size)⟩
        | true =>
          obtain ⟨a1, a2, a3⟩ := lt_all hA
          cases hB : hasB (lo, hi) q with
          | false =>
            obtain ⟨b0, b1⟩ := hasB_no hB hA
            have b2 : hi.isEmpty = false := ne_isEmpty b0
            obtain ⟨b3, b4⟩ := nlt_all b1
            have Hr : Hid (R = false) := Lib.hid (by rw [Hq.out, hB]; simp)
            clear Hq HP hA hB b0 HLP
            go_wp2_with fail
            go_quiet (fail)
            go_wp2
            go_ret
            exact ⟨ret_bool (by rw [Hr.out]), HG.out.trans ((belowQ _ _ _).mono HG.out.size)⟩
          | true =>
            rw [hB, Bool.true_and] at Hq
            cases hE : hi.isEmpty with
            | true =>
              cases hC : Op.bytesLess p q with
              | false =>
                obtain ⟨d1, d2⟩ := nlt_all hC
                have Hr : Hid (R = false) := Lib.hid (by rw [Hq.out, hC]; rfl)
                clear Hq HP hA hB hC HLP
                go_wp2_with fail
                go_quiet (fail)
                go_wp2
                go_ret
                exact ⟨ret_bool (by rw [Hr.out]), HG.out.trans ((belowQ _ _ _).mono HG.out.size)⟩
              | true =>
                obtain ⟨d1, d2, d3⟩ := lt_all hC
                have HN : Hid (R = pivB (lo, hi) (prevP lo ps (j + 1 + 1)) (ps.drop (j + 1 + 1))) := Lib.hid (by rw [HP.out, Hq.out, hC]; rfl)
                have HN2 : Hid (j + 1 + 1 ≠ 0 → Op.bytesLess lo (prevP lo ps (j + 1 + 1)) = true) := Lib.hid (fun _ => by rw [HP.out]; exact hA)
                clear Hq HP hA hB hC HLP
                go_wp2_with fail
                go_quiet (fail)
                go_wp2
                go_roundw
                case rel => exact ⟨j + 1 + 1, n + nq, by omega, by go_num, rfl, HN, HN2⟩
                case measure => simp [intOf]; omega
            | false =>
              obtain ⟨b1, b2, b3⟩ := lt_all (hasB_facts hB hA (by rintro rfl; cases hE))
              have b4 := hasB_facts hB hA (by rintro rfl; cases hE)
              cases hC : Op.bytesLess p q with
              | false =>
                obtain ⟨d1, d2⟩ := nlt_all hC
                have Hr : Hid (R = false) := Lib.hid (by rw [Hq.out, hC]; rfl)
                clear Hq HP hA hB hC HLP
                go_wp2_with fail
                go_quiet (fail)
                go_wp2
                go_ret
                exact ⟨ret_bool (by rw [Hr.out]), HG.out.trans ((belowQ _ _ _).mono HG.out.size)⟩
              | true =>
                obtain ⟨d1, d2, d3⟩ := lt_all hC
                have HN : Hid (R = pivB (lo, hi) (prevP lo ps (j + 1 + 1)) (ps.drop (j + 1 + 1))) := Lib.hid (by rw [HP.out, Hq.out, hC]; rfl)
                have HN2 : Hid (j + 1 + 1 ≠ 0 → Op.bytesLess lo (prevP lo ps (j + 1 + 1)) = true) := Lib.hid (fun _ => by rw [HP.out]; exact hA)
                clear Hq HP hA hB hC HLP
                go_wp2_with fail
                go_quiet (fail)
                go_wp2
                go_roundw
                case rel => exact ⟨j + 1 + 1, n + nq, by omega, by go_num, rfl, HN, HN2⟩
                case measure => simp [intOf]; omega
    · obtain rfl : k = ps.length := by omega
      have Hr : Hid (R = true) := Lib.hid (by rw [hp.out, List.drop_length]; rfl)
      clear hp hlp
      go_wp2
      go_ret
      exact ⟨ret_bool (by rw [Hr.out]), HG.out.trans ((below_drewN _ _).mono HG.out.size)⟩

end Go.Proofs.YtmbfghbhajmpiaaGreat
namespace Go.Proofs.YtmbfghbhajmpiaaGreat
open Go.RowKit Go.Sort
set_option linter.unusedVariables false

theorem leaf_parts (s : Sp) (k v : Bs) (n : Int) : leafPB s (k, v, n) = (hasB s k && (inZ 1 65535 (k.length : Int) && (!decide ((64 : Int) < (v.length : Int)) && inZ 0 1000000000 n))) := by
  unfold leafPB pairB inZ
  rw [Bool.and_comm]
  congr 1
  by_cases hk : k = []
  · subst hk; simp
  · have := List.length_pos_iff.2 hk
    rw [Bool.eq_iff_iff]
    simp only [Bool.and_eq_true, decide_eq_true_eq, Bool.not_eq_true', decide_eq_false_iff_not, ne_eq, hk, not_false_eq_true, true_and]
    omega
set_option maxRecDepth 100000 in
set_option maxHeartbeats 4000000 in
theorem leaf10_w (v : Value) (n : Nd) (s : Sp) (w : World) (h : IsNode w v n) (hl : n.pairs.length ≤ 100000000000) : Calls Tryz.prog 64 #[v, .agg #[.string (Str s.1), .string (Str s.2)]] w fun e w' => e = .returned (.bool (leafB n s)) ∧ Grown w w' := by
  have mixed := mixedA
  obtain ⟨a, b, c, d, e, rfl, hP, ⟨pb, cb, rfl, hlb, hmb, -⟩, ⟨pc, cc, rfl, -⟩, ⟨pd, cd, rfl, hld, hmd, -⟩, ⟨pe, ce, rfl, hle, hme, -⟩⟩ := h
  obtain ⟨np, ni, nk, ns, nb⟩ := n
  dsimp only at *
  have HF : Hid (leafB ⟨np, ni, nk, ns, nb⟩ s = (ni.isEmpty && (ns.isEmpty && (nb.isEmpty && (validB np && np.all (leafPB s)))))) := Lib.hid rfl
  generalize leafB ⟨np, ni, nk, ns, nb⟩ s = R at *
  have HV := Lib.hid (fun wx (hx : Grown w wx) => rtvalid_w a np wx (hP.below (hx.below (Nat.le_refl _))) hl)
  have HP := Lib.hid hP
  obtain ⟨pa, ca, rfl, hla, hma, -, -⟩ := hP
  unfold maxLen at hmb hmd hme hma
  by_cases h1 : ni = []
  rotate_left
  · have hp := len_pos h1
    have hpn := len_posN h1
    have HR : Hid (R = false) := Lib.hid (by rw [HF.out, ne_isEmpty' h1]; rfl)
    clear h1 HF HV
    go_enter Tryz.func64, Tryz.ntmps64
    go_wp2
    go_ret
    exact ⟨ret_bool (by rw [HR.out]), by repeat (first | exact Grown.refl _ | refine Grown.alloc ?_ _)⟩
  subst h1
  by_cases h2 : ns = []
  rotate_left
  · have hp := len_pos h2
    have hpn := len_posN h2
    have HR : Hid (R = false) := Lib.hid (by rw [HF.out, ne_isEmpty' h2]; rfl)
    clear h2 HF HV
    go_enter Tryz.func64, Tryz.ntmps64
    go_wp2
    go_ret
    exact ⟨ret_bool (by rw [HR.out]), by repeat (first | exact Grown.refl _ | refine Grown.alloc ?_ _)⟩
  subst h2
  by_cases h3 : nb = []
  rotate_left
  · have hp := len_pos h3
    have hpn := len_posN h3
    have HR : Hid (R = false) := Lib.hid (by rw [HF.out, ne_isEmpty' h3]; rfl)
    clear h3 HF HV
    go_enter Tryz.func64, Tryz.ntmps64
    go_wp2
    go_ret
    exact ⟨ret_bool (by rw [HR.out]), by repeat (first | exact Grown.refl _ | refine Grown.alloc ?_ _)⟩
  subst h3
  obtain ⟨W1, hW1⟩ : ∃ W1, W1 = (w.alloc (.cells #[.slice pa np.length ca, .slice pb 0 cb, .slice pc nk.length cc, .slice pd 0 cd, .slice pe 0 ce] 34)).alloc (.cells #[.string (Str s.1), .string (Str s.2)] 41) := ⟨_, rfl⟩
  have HM : Hid (Blk W1 w.heap.size 34 #[.slice pa np.length ca, .slice pb 0 cb, .slice pc nk.length cc, .slice pd 0 cd, .slice pe 0 ce]) := Lib.hid (by rw [hW1]; exact (Blk.new _ _ _).alloc _)
  have HC : Hid (Blk W1 (w.heap.size + 1) 41 #[.string (Str s.1), .string (Str s.2)]) := Lib.hid (by rw [hW1]; exact Blk.new' _ _ _ (by simp))
  have HG : Hid (Grown w W1) := Lib.hid (by rw [hW1]; exact ((Grown.refl w).alloc _).alloc _)
  have n0 := HM.out.c0 0 _ rfl
  have n1 := HM.out.c0 1 _ rfl
  have n3 := HM.out.c0 3 _ rfl
  have n4 := HM.out.c0 4 _ rfl
  have HW1 := Lib.hid hW1
  clear hW1
  cases h4 : validB np with
  | false =>
    rw [h4] at HV HF
    have HR : Hid (R = false) := Lib.hid (by rw [HF.out]; rfl)
    clear h4 HF
    go_enter Tryz.func64, Tryz.ntmps64
    go_wp2_with fail
    rw [← HW1.out]
    refine (HV.out _ HG.out).mono ?_
    rintro e w2 ⟨rfl, nq, rfl⟩
    go_wp2
    go_ret
    exact ⟨ret_bool (by rw [HR.out]), HG.out.trans (Grown.drewN _ _)⟩
  | true =>
    rw [h4] at HV HF
    have HR : Hid (R = np.all (leafPB s)) := Lib.hid (by rw [HF.out]; rfl)
    clear h4 HF
    go_enter Tryz.func64, Tryz.ntmps64
    go_wp2_with fail
    rw [← HW1.out]
    refine (HV.out _ HG.out).mono ?_
    rintro e w2 ⟨rfl, nq, rfl⟩
    have HMQ : Hid (Blk (W1.drewN nq) w.heap.size 34 #[.slice pa np.length ca, .slice pb 0 cb, .slice pc nk.length cc, .slice pd 0 cd, .slice pe 0 ce]) := Lib.hid HM.out
    have HCQ : Hid (Blk (W1.drewN nq) (w.heap.size + 1) 41 #[.string (Str s.1), .string (Str s.2)]) := Lib.hid HC.out
    have HGQ : Hid (Grown w (W1.drewN nq)) := Lib.hid (HG.out.trans (Grown.drewN _ _))
    clear HM HC HG n0 n1 n3 n4 HW1
    generalize W1.drewN nq = W2 at *
    have n0 := HMQ.out.c0 0 _ rfl
    go_wp2_with fail
    go_loopw [5] (fun i wr => ∃ k : Nat, k ≤ np.length ∧ i = .int .i64 k ∧ Grown W2 wr ∧ Hid ((np.take k).all (leafPB s) = true)) (fun i _ => np.length - (intOf i).toNat)
    case atStart => exact ⟨0, Nat.zero_le _, rfl, Grown.refl _, Lib.hid rfl⟩
    case round =>
      obtain ⟨k, hk, rfl, hg, hall⟩ := hrel
      have Hg := Lib.hid hg
      have hg0 := hg
      have n0' := (hg.blk HMQ.out).c0 0 _ rfl
      have s0' := (hg.blk HCQ.out).c0 0 _ rfl
      have s1' := (hg.blk HCQ.out).c0 1 _ rfl
      by_cases hlt : k < np.length
      · obtain ⟨bb, off, cap', he, hbl, hlz, y0, y1, y2⟩ := pair_cells (HP.out.below ((HGQ.out.trans hg).below (Nat.le_refl _))) k hlt
        injection he with he1 he2 he3
        subst he1 he3
        clear he2 hg n0
        have hltz : (k : Int) < (np.length : Int) := by omega
        have HT := Lib.hid (show (np.take (k + 1)).all (leafPB s) = ((np.take k).all (leafPB s) && leafPB s np[k]) by rw [List.take_succ_eq_append_getElem hlt, List.all_append]; simp)
        have HN := Lib.hid (fun (h : leafPB s np[k] = false) => (List.all_eq_false.2 ⟨np[k], List.getElem_mem hlt, by rw [h]; simp⟩ : np.all (leafPB s) = false))
        generalize np[k] = x at *
        obtain ⟨xk, xv, xt⟩ := x
        dsimp only at y0 y1 y2
        have HL : Hid (leafPB s (xk, xv, xt) = (hasB s xk && (inZ 1 65535 (xk.length : Int) && (!decide ((64 : Int) < (xv.length : Int)) && inZ 0 1000000000 xt)))) := Lib.hid (leaf_parts s xk xv xt)
        rw [HL.out] at HT HN
        have hslt := (hg0.blk HCQ.out).lt
        have hnlt := (hg0.blk HMQ.out).lt
        have HH := Lib.hid (fun wx => rhas_w s.1 s.2 xk wx)
        have HI1 := Lib.hid (fun wx => r10in_w (xk.length : Int) 1 65535 wx)
        have HI2 := Lib.hid (fun wx => r10in_w xt 0 1000000000 wx)
        rw [show hasB (s.1, s.2) xk = hasB s xk from rfl] at HH
        clear HL hg0
        generalize hasB s xk = q0 at *
        generalize inZ 1 65535 (xk.length : Int) = q1 at *
        generalize inZ 0 1000000000 xt = q3 at *
        cases q0 with
        | false =>
          have Hr : Hid (R = false) := Lib.hid (by rw [HR.out, HN.out rfl])
          clear HT HN hall
          go_wp2_with (first
            | (go_at_call 34; refine (HH.out _).mono ?_; rintro e w4 ⟨rfl, hg4⟩; have B4 := Lib.hid (hg4.blk (Blk.new wr 48 #[.string (Str xk), .string (Str xv), .int .i64 xt])); have p0 := B4.out.c0 0 _ rfl; have p1 := B4.out.c0 1 _ rfl; have p2 := B4.out.c0 2 _ rfl; have G4 := Lib.hid ((Hg.out.alloc (.cells #[.string (Str xk), .string (Str xv), .int .i64 xt] 48)).trans hg4); clear hg4)
            | (go_at_call_of 66 (Value.int .i64 65535); refine (HI1.out _).mono ?_; rintro e w5 ⟨rfl, hg5⟩; have B5 := Lib.hid (hg5.blk B4.out); have r0 := B5.out.c0 0 _ rfl; have r1 := B5.out.c0 1 _ rfl; have r2 := B5.out.c0 2 _ rfl; have G5 := Lib.hid (G4.out.trans hg5); clear hg5)
            | (go_at_call 66; refine (HI2.out _).mono ?_; rintro e w6 ⟨rfl, hg6⟩; have G6 := Lib.hid (G5.out.trans hg6); clear hg6))
          go_ret
          exact ⟨ret_bool (by rw [Hr.out]), HGQ.out.trans G4.out⟩
        | true =>
          cases q1 with
          | false =>
            have Hr : Hid (R = false) := Lib.hid (by rw [HR.out, HN.out rfl])
            clear HT HN hall
            go_wp2_with (first
              | (go_at_call 34; refine (HH.out _).mono ?_; rintro e w4 ⟨rfl, hg4⟩; have B4 := Lib.hid (hg4.blk (Blk.new wr 48 #[.string (Str xk), .string (Str xv), .int .i64 xt])); have p0 := B4.out.c0 0 _ rfl; have p1 := B4.out.c0 1 _ rfl; have p2 := B4.out.c0 2 _ rfl; have G4 := Lib.hid ((Hg.out.alloc (.cells #[.string (Str xk), .string (Str xv), .int .i64 xt] 48)).trans hg4); clear hg4)
              | (go_at_call_of 66 (Value.int .i64 65535); refine (HI1.out _).mono ?_; rintro e w5 ⟨rfl, hg5⟩; have B5 := Lib.hid (hg5.blk B4.out); have r0 := B5.out.c0 0 _ rfl; have r1 := B5.out.c0 1 _ rfl; have r2 := B5.out.c0 2 _ rfl; have G5 := Lib.hid (G4.out.trans hg5); clear hg5)
              | (go_at_call 66; refine (HI2.out _).mono ?_; rintro e w6 ⟨rfl, hg6⟩; have G6 := Lib.hid (G5.out.trans hg6); clear hg6))
            go_ret
            exact ⟨ret_bool (by rw [Hr.out]), HGQ.out.trans G5.out⟩
          | true =>
            by_cases hv : (64 : Int) < (xv.length : Int)
            · have hvd : decide ((64 : Int) < (xv.length : Int)) = true := by simp; omega
              have Hr : Hid (R = false) := Lib.hid (by rw [HR.out, HN.out (by rw [hvd]; rfl)])
              clear HT HN hall
              go_wp2_with (first
                | (go_at_call 34; refine (HH.out _).mono ?_; rintro e w4 ⟨rfl, hg4⟩; have B4 := Lib.hid (hg4.blk (Blk.new wr 48 #[.string (Str xk), .string (Str xv), .int .i64 xt])); have p0 := B4.out.c0 0 _ rfl; have p1 := B4.out.c0 1 _ rfl; have p2 := B4.out.c0 2 _ rfl; have G4 := Lib.hid ((Hg.out.alloc (.cells #[.string (Str xk), .string (Str xv), .int .i64 xt] 48)).trans hg4); clear hg4)
                | (go_at_call_of 66 (Value.int .i64 65535); refine (HI1.out _).mono ?_; rintro e w5 ⟨rfl, hg5⟩; have B5 := Lib.hid (hg5.blk B4.out); have r0 := B5.out.c0 0 _ rfl; have r1 := B5.out.c0 1 _ rfl; have r2 := B5.out.c0 2 _ rfl; have G5 := Lib.hid (G4.out.trans hg5); clear hg5)
                | (go_at_call 66; refine (HI2.out _).mono ?_; rintro e w6 ⟨rfl, hg6⟩; have G6 := Lib.hid (G5.out.trans hg6); clear hg6))
              go_ret
              exact ⟨ret_bool (by rw [Hr.out]), HGQ.out.trans G5.out⟩
            · have hvd : decide ((64 : Int) < (xv.length : Int)) = false := by simp; omega
              have hvz : (xv.length : Int) ≤ 64 := by omega
              rw [hvd] at HT HN
              cases q3 with
              | false =>
                have Hr : Hid (R = false) := Lib.hid (by rw [HR.out, HN.out rfl])
                clear HT HN hall
                go_wp2_with (first
                  | (go_at_call 34; refine (HH.out _).mono ?_; rintro e w4 ⟨rfl, hg4⟩; have B4 := Lib.hid (hg4.blk (Blk.new wr 48 #[.string (Str xk), .string (Str xv), .int .i64 xt])); have p0 := B4.out.c0 0 _ rfl; have p1 := B4.out.c0 1 _ rfl; have p2 := B4.out.c0 2 _ rfl; have G4 := Lib.hid ((Hg.out.alloc (.cells #[.string (Str xk), .string (Str xv), .int .i64 xt] 48)).trans hg4); clear hg4)
                  | (go_at_call_of 66 (Value.int .i64 65535); refine (HI1.out _).mono ?_; rintro e w5 ⟨rfl, hg5⟩; have B5 := Lib.hid (hg5.blk B4.out); have r0 := B5.out.c0 0 _ rfl; have r1 := B5.out.c0 1 _ rfl; have r2 := B5.out.c0 2 _ rfl; have G5 := Lib.hid (G4.out.trans hg5); clear hg5)
                  | (go_at_call 66; refine (HI2.out _).mono ?_; rintro e w6 ⟨rfl, hg6⟩; have G6 := Lib.hid (G5.out.trans hg6); clear hg6))
                go_ret
                exact ⟨ret_bool (by rw [Hr.out]), HGQ.out.trans G6.out⟩
              | true =>
                have HA : Hid ((np.take (k + 1)).all (leafPB s) = true) := Lib.hid (by rw [HT.out, hall.out]; rfl)
                clear HT HN hall
                go_wp2_with (first
                  | (go_at_call 34; refine (HH.out _).mono ?_; rintro e w4 ⟨rfl, hg4⟩; have B4 := Lib.hid (hg4.blk (Blk.new wr 48 #[.string (Str xk), .string (Str xv), .int .i64 xt])); have p0 := B4.out.c0 0 _ rfl; have p1 := B4.out.c0 1 _ rfl; have p2 := B4.out.c0 2 _ rfl; have G4 := Lib.hid ((Hg.out.alloc (.cells #[.string (Str xk), .string (Str xv), .int .i64 xt] 48)).trans hg4); clear hg4)
                  | (go_at_call_of 66 (Value.int .i64 65535); refine (HI1.out _).mono ?_; rintro e w5 ⟨rfl, hg5⟩; have B5 := Lib.hid (hg5.blk B4.out); have r0 := B5.out.c0 0 _ rfl; have r1 := B5.out.c0 1 _ rfl; have r2 := B5.out.c0 2 _ rfl; have G5 := Lib.hid (G4.out.trans hg5); clear hg5)
                  | (go_at_call 66; refine (HI2.out _).mono ?_; rintro e w6 ⟨rfl, hg6⟩; have G6 := Lib.hid (G5.out.trans hg6); clear hg6))
                go_roundw
                case rel => exact ⟨k + 1, by omega, by go_num, G6.out, HA⟩
                case measure => simp [intOf]; omega
      · obtain rfl : k = np.length := by omega
        have Hr : Hid (R = true) := Lib.hid (by have h := hall.out; rw [List.take_length] at h; rw [HR.out, h])
        clear hall hg0
        go_wp2
        go_ret
        exact ⟨ret_bool (by rw [Hr.out]), HGQ.out.trans Hg.out⟩

end Go.Proofs.YtmbfghbhajmpiaaGreat
