/-
  Walks of reference 08: messages that cross.
-/
import Derived.Test.YtfpcaoacbjhkgaaGreatUT
namespace Go.Proofs.YtfpcaoacbjhkgaaGreat
open Go.RowKit Go.Sort
set_option linter.unusedVariables false
theorem spans_news {w : World} {p : Option Addr} {n cap : Nat} {m : List Sp} (hp : IsSpans w (.slice p n cap) m) : n = m.length ∧ (m.length ≠ 0 → ∃ ad, p = some ad ∧ ∀ j u, (m.flatMap encS)[j]? = some u → w.cell? (ad.add j) = some u) := by
  obtain ⟨p', cap', he, hlc, hcm, hpp⟩ := hp
  cases he
  refine ⟨rfl, fun hm => ?_⟩
  obtain ⟨b, off, rfl, hlt, hc⟩ := hpp (by rintro rfl; simp at hm)
  refine ⟨_, rfl, cells_at fun j u hj => ?_⟩
  have hj1 : j < m.length * 2 := by rw [← flatS_len]; exact (List.getElem?_eq_some_iff.1 hj).1
  have hi2 : j / 2 < m.length := by omega
  have g := flatS_get m (j / 2) hi2
  have c := hc (j / 2) hi2
  have hcase : j = j / 2 * 2 ∨ j = j / 2 * 2 + 1 := by omega
  rcases hcase with h | h
  · rw [h] at hj ⊢
    rw [g.1] at hj
    rw [← Option.some.inj hj]; exact c.1
  · rw [h] at hj ⊢
    rw [g.2] at hj
    rw [← Option.some.inj hj]; exact c.2
theorem step_spans {ops : Array Oper} {o : Oper} {a : Act} {w : World} {K : Act → World → Prop} {Q : Exit → Act → World → Prop} {E : Prop} (hg : o.guard = none) (s x : Operand)
    (hop : o.op = .call { callee := .builtin .append, args := #[s, x], argTypes := #[29, 29] }) (base : Nat) (v : Value) (l : List Sp) (hs : a.eval s = v) (hown : w.ownsRow base 38 2 v l.length (l.flatMap encS))
    (p : Option Addr) (n cap : Nat) (m : List Sp) (hx : a.eval x = .slice p n cap) (hp : IsSpans w (.slice p n cap) m) (hl : l.length + m.length ≤ 1000000000) (hbase : base ≤ w.heap.size)
    (hK : ∀ v' w', w'.ownsRow base 38 2 v' (l ++ m).length ((l ++ m).flatMap encS) → Turn v v' w w' → K (a.put o.dst v') w') : if Region.wanted o (yielded ops a.tmps) = true then Oper.wp Tryz.prog o a w K Q else E := by
  obtain ⟨i0, hi, hz0, hz1, hz2⟩ := info_parts infoS
  obtain ⟨rfl, hn⟩ := spans_news hp
  refine step_turn hg s x 29 38 i0 (.agg #[.string ⟨#[]⟩, .string ⟨#[]⟩]) 2 32 Tryz.underlying29 hi hz0 hz1 hz2 rfl (by decide) (by decide) hop base v l.length _ hs hown p m.length cap (m.flatMap encS) hx (flatS_len m) hn (flatS_one m) hl hbase ?_
  intro v' w' h2 h3
  refine hK v' w' ?_ h3
  rw [List.length_append, List.flatMap_append]; exact h2
theorem spans8_w (v : Value) (ps : List Bs) (w : World) (h : IsStrs w v ps) (hl : ps.length ≤ 1000) : Calls Tryz.prog 13 #[v] w fun e w' => ∃ v', e = .returned v' ∧ w'.ownsRow w.heap.size 38 2 v' (kidsS ps).length ((kidsS ps).flatMap encS) ∧ Below w.heap.size w w' := by
  have hp := rparts_w [] [] v ps w h hl
  change Calls _ _ #[.agg #[.string ⟨#[]⟩, .string ⟨#[]⟩], _] _ fun e w' => ∃ v', e = .returned v' ∧ w'.ownsRow _ _ 2 v' (kidsS ps).length ((kidsS ps).flatMap encS) ∧ _ at hp
  have HP := Lib.hid hp
  obtain ⟨a, cap, rfl, -⟩ := h
  clear hp
  generalize kidsS ps = K at *
  go_enter Tryz.func13, Tryz.ntmps13
  go_wp2_with fail
  refine HP.out.mono ?_
  rintro e w2 ⟨v2, rfl, ho2, hb2⟩
  have HO := Lib.hid ho2
  have HB := Lib.hid hb2
  clear ho2 hb2
  go_wp2
  go_ret
  exact ⟨_, rfl, HO.out, HB.out⟩
set_option maxHeartbeats 1000000 in
theorem rmoves_w (m : Ms) (w : World) : Calls Tryz.prog 56 #[msgV m] w fun e w' => e = .returned (.bool (movesB m)) ∧ Grown w w' := by
  have mixed := mixedA
  unfold movesB
  by_cases h4 : m.kind = 4
  · rw [h4]
    obtain ⟨k, ky, va, lo, hi, sr, ds, n⟩ := m
    dsimp only at h4
    subst h4
    go_enter Tryz.func56, Tryz.ntmps56
    go_wp2
    go_ret
    exact ⟨by first | rfl | simp, (Grown.refl w).alloc _⟩
  · have g4 : decide (m.kind = 4) = false := decide_eq_false h4
    by_cases h5 : m.kind = 5
    · obtain ⟨k, ky, va, lo, hi, sr, ds, n⟩ := m
      dsimp only at h5
      subst h5
      go_enter Tryz.func56, Tryz.ntmps56
      go_wp2
      go_ret
      exact ⟨by first | rfl | simp, (Grown.refl w).alloc _⟩
    · have g5 : decide (m.kind = 5) = false := decide_eq_false h5
      rw [g4, g5]
      have e4 : (m.kind == 4) = false := by simpa using h4
      have e5 : (m.kind == 5) = false := by simpa using h5
      clear h4 h5 g4 g5
      go_enter Tryz.func56, Tryz.ntmps56
      go_wp2
      go_ret
      exact ⟨by first | rfl | simp, (Grown.refl w).alloc _⟩
theorem rowS {W wx wy : World} {B : Nat} {v v' : Value} {l : List Sp} {n : Nat} (ho : wx.ownsRow B 38 2 v n (l.flatMap encS)) (ht : Turn v v' wx wy) (hB : W.heap.size ≤ B) (hw : B ≤ wx.heap.size) (h : Below W.heap.size W wx) : Below W.heap.size W wy :=
  h.trans ((Below.grown (Below.refl B wx) ht.1 hw (fun k hk => (ho.lt k hk).1)).mono hB)
theorem empty_made {W w2 : World} (hb : Below (W.alloc (.cells #[] 38)).drew.heap.size (W.alloc (.cells #[] 38)).drew w2) : w2.ownsRow W.heap.size 38 2 (.slice (some ⟨W.heap.size, 0, none⟩) 0 0) ([] : List Sp).length (([] : List Sp).flatMap encS) :=
  owns_below (show (W.alloc (.cells #[] 38)).drew.ownsRow _ _ _ _ _ _ from own_emptyS W W.heap.size (Nat.le_refl _)) hb
theorem empty_here {W w2 : World} (hs : W.heap.size ≤ w2.heap.size) : (w2.alloc (.cells #[] 38)).ownsRow W.heap.size 38 2 (.slice (some ⟨w2.heap.size, 0, none⟩) 0 0) ([] : List Sp).length (([] : List Sp).flatMap encS) := own_emptyS w2 _ hs
def SpsAt (W : World) (v : Value) (l : List Sp) (wx : World) : Prop := ∃ a c, v = .slice a l.length c ∧ IsSpans wx (.slice a l.length c) l ∧ Below W.heap.size W wx
set_option maxRecDepth 100000 in
set_option maxHeartbeats 8000000 in
theorem rlies_w (m : Ms) (s : Sp) (w : World) (hz : SizeM m) (hk : OneToSix m) :
    Calls Tryz.prog 57 #[msgV m, strS s] w fun e w' => e = .returned (.bool (liesB m s)) ∧ Below w.heap.size w w' := by
  have mixed := mixedA
  have hR := fun wx => rreads_w m wx hz hk
  have hW := fun wx => rwrites_w m wx hz hk
  have hrw := rw_len m
  have hC := fun b wx => rcovers_w s b wx
  obtain ⟨W1, hW1⟩ : ∃ W1, W1 = (w.alloc (.cells (encM m) 40)).alloc (.cells #[.string (Str s.1), .string (Str s.2)] 38) := ⟨_, rfl⟩
  have hB1 : Blk W1 w.heap.size 40 (encM m) := by rw [hW1]; exact (Blk.new _ _ _).alloc _
  have hB2 : Blk W1 (w.heap.size + 1) 38 #[.string (Str s.1), .string (Str s.2)] := by rw [hW1]; exact Blk.new' _ _ _ (by simp)
  have hg1 : Below w.heap.size w W1 := by rw [hW1]; exact ((Below.refl _ _).alloc (Nat.le_refl _) _).alloc (by simp) _
  have hx : ∀ i x, (encM m)[i]? = some x → ∀ wx, Below W1.heap.size W1 wx → wx.cell? ⟨w.heap.size, i, none⟩ = some x := fun i x hi wx hg => (Blk.below hB1 hg hB1.lt).c0 i x hi
  have x0 : ∀ wx, Below W1.heap.size W1 wx → wx.cell? ⟨w.heap.size, 0, none⟩ = some (.int .i64 m.kind) := hx 0 _ rfl
  have x1 : ∀ wx, Below W1.heap.size W1 wx → wx.cell? ⟨w.heap.size, 1, none⟩ = some (.string (Str m.key)) := hx 1 _ rfl
  have x2 : ∀ wx, Below W1.heap.size W1 wx → wx.cell? ⟨w.heap.size, 2, none⟩ = some (.string (Str m.val)) := hx 2 _ rfl
  have x3 : ∀ wx, Below W1.heap.size W1 wx → wx.cell? ⟨w.heap.size, 3, none⟩ = some (.string (Str m.lo)) := hx 3 _ rfl
  have x4 : ∀ wx, Below W1.heap.size W1 wx → wx.cell? ⟨w.heap.size, 4, none⟩ = some (.string (Str m.hi)) := hx 4 _ rfl
  have x5 : ∀ wx, Below W1.heap.size W1 wx → wx.cell? ⟨w.heap.size, 5, none⟩ = some (.string (Str m.src)) := hx 5 _ rfl
  have x6 : ∀ wx, Below W1.heap.size W1 wx → wx.cell? ⟨w.heap.size, 6, none⟩ = some (.string (Str m.dst)) := hx 6 _ rfl
  have x7 : ∀ wx, Below W1.heap.size W1 wx → wx.cell? ⟨w.heap.size, 7, none⟩ = some (.int .i64 m.n) := hx 7 _ rfl
  have HS0 : Hid (Below W1.heap.size W1 W1) := Lib.hid (Below.refl _ _)
  have hL : liesB m s = (readsS m ++ writesS m).all fun t => coversB s t := rfl
  rw [hL]
  generalize readsS m = R at *
  generalize writesS m = Wr at *
  have HR := Lib.hid hR
  have HW := Lib.hid hW
  have HC := Lib.hid hC
  have HG1 := Lib.hid hg1
  have HB2 := Lib.hid hB2
  have HW1 := Lib.hid hW1
  clear hR hW hC hB1 hB2 hg1 hx hL hW1 hz hk
  simp only [strS] at HC ⊢
  go_enter Tryz.func57, Tryz.ntmps57
  go_wp2_with fail
  rw [← HW1.out]
  go_cut [5] (fun s5 wx => Hid (SpsAt W1 s5 (R ++ Wr) wx))
  case first =>
    go_region_held3 (fun wx => Below W1.heap.size W1 wx)
      (repeat (first | with_reducible assumption | with_reducible exact HS0.out | with_reducible refine Below.drew ?_ | with_reducible refine keepA ?_ _))
      (first
        | (go_at_call 87; (refine (HR.out _).mono ?_); rintro e2 y2 ⟨v2, rfl, hR2, hG2⟩; obtain ⟨pR, cR, rfl, -⟩ := id hR2; have hS2 : Below W1.heap.size W1 y2 := keepG (by repeat (first | with_reducible assumption | with_reducible exact HS0.out | with_reducible refine Below.drew ?_ | with_reducible refine keepA ?_ _)) hG2; have hd2 := hG2.below (Nat.le_refl _); (first | (have hE2 := empty_made hd2) | skip))
        | (go_at_call 65; (refine (HW.out _).mono ?_); rintro e3 y3 ⟨v3, rfl, hW3, hG3⟩; obtain ⟨pW, cW, rfl, -⟩ := id hW3; have hS3 : Below W1.heap.size W1 y3 := keepG (by repeat (first | with_reducible assumption | with_reducible exact HS0.out | with_reducible refine Below.drew ?_ | with_reducible refine keepA ?_ _)) hG3; have hd3 := hG3.below (Nat.le_refl _); (first | (have hO3 := owns_below hO4 hd3) | skip))
        | (refine step_spans rfl _ _ rfl W1.heap.size (.slice (some ⟨W1.heap.size, 0, none⟩) 0 0) [] rfl hE2 pR R.length cR R rfl hR2 (by simp only [List.length_nil]; omega) hS2.size ?_; intro v4 y4 hO4 hT4; have hS4 : Below W1.heap.size W1 y4 := rowS hE2 hT4 (Nat.le_refl _) hS2.size hS2)
        | (refine step_spans rfl _ _ rfl W1.heap.size (.slice (some ⟨y2.heap.size, 0, none⟩) 0 0) [] rfl (empty_here hS2.size) pR R.length cR R rfl (hR2.below (below_box _)) (by simp only [List.length_nil]; omega) (keepA hS2 _).size ?_; intro v4 y4 hO4 hT4; have hS4 : Below W1.heap.size W1 y4 := rowS (empty_here hS2.size) hT4 (Nat.le_refl _) (keepA hS2 _).size (keepA hS2 _))
        | (refine step_spans rfl _ _ rfl W1.heap.size v4 ([] ++ R) rfl hO3 pW Wr.length cW Wr rfl hW3 (by simp only [List.nil_append]; omega) hS3.size ?_; intro v5 y5 hO5 hT5; have hS5 : Below W1.heap.size W1 y5 := rowS hO3 hT5 (Nat.le_refl _) hS3.size hS3)
        | fail "no arm")
    all_goals (go_wp2_with fail; go_meet)
    all_goals
      rw [List.nil_append] at hO5
      obtain ⟨a5, c5, rfl, -⟩ := IsSpans.owned hO5
      exact Lib.hid ⟨a5, c5, rfl, IsSpans.owned hO5, hS5⟩
  case rest =>
    clear x0 x1 x2 x3 x4 x5 x6 x7 HR HW
    obtain ⟨a5, c5, rfl, h5, hb5⟩ := hcut.out
    have H5 := Lib.hid h5
    have HBC := Lib.hid (HG1.out.trans (hb5.mono HG1.out.size))
    have HBS := Lib.hid (HB2.out.below hb5 HB2.out.lt)
    have hll : (R ++ Wr).length ≤ 4 := by rw [List.length_append]; omega
    clear hcut h5 hb5
    generalize hLL : R ++ Wr = L at *
    have HLL := Lib.hid hLL
    clear hLL
    have hLz : (L.length : Int) ≤ 9223372036854775807 := by omega
    go_wp2
    go_loopw [6] (fun i wr => ∃ k : Nat, k ≤ L.length ∧ i = .int .i64 k ∧ (L.take k).all (fun t => coversB s t) = true ∧ Below wc.heap.size wc wr) (fun i _ => L.length - (intOf i).toNat)
    case atStart => exact ⟨0, Nat.zero_le _, rfl, by simp, Below.refl _ _⟩
    case round =>
      obtain ⟨k, hk, rfl, hall, hbel⟩ := hrel
      have Hbel := Lib.hid hbel
      have hsz := hbel.size
      have HALL := Lib.hid hall
      clear hbel hall
      by_cases hlt : k < L.length
      · have hltz : (k : Int) < (L.length : Int) := by omega
        obtain ⟨b, off, cap', he, hbl, hlz, y0, y1⟩ := span_cells (H5.out.below Hbel.out) k hlt
        injection he with he1 he2 he3
        subst he1 he3
        clear he2
        have HT := Lib.hid (show (L.take (k + 1)).all (fun t => coversB s t) = ((L.take k).all (fun t => coversB s t) && coversB s L[k]) by rw [List.take_succ_eq_append_getElem hlt, List.all_append]; simp)
        have HN := Lib.hid (fun (h : coversB s L[k] = false) => (List.all_eq_false.2 ⟨L[k], List.getElem_mem hlt, by rw [h]; simp⟩ : L.all (fun t => coversB s t) = false))
        have HC1 := Lib.hid (fun wx => HC.out L[k] wx)
        generalize L[k] = x at *
        obtain ⟨xa, xb⟩ := x
        dsimp only at y0 y1
        generalize hq : coversB s (xa, xb) = q at *
        have hx0 : ∀ wx, Below wr.heap.size wr wx → wx.cell? ⟨w.heap.size + 1, 0, none⟩ = some (.string (Str s.1)) := fun wx hx => ((HBS.out.below Hbel.out HBS.out.lt).below hx (Nat.lt_of_lt_of_le HBS.out.lt hsz)).c0 0 _ rfl
        have hx1 : ∀ wx, Below wr.heap.size wr wx → wx.cell? ⟨w.heap.size + 1, 1, none⟩ = some (.string (Str s.2)) := fun wx hx => ((HBS.out.below Hbel.out HBS.out.lt).below hx (Nat.lt_of_lt_of_le HBS.out.lt hsz)).c0 1 _ rfl
        have hy0 : ∀ wx, Below wr.heap.size wr wx → wx.cell? ⟨b, off + k * 2, none⟩ = some (.string (Str xa)) := fun wx hx => (hx.cell (p := ⟨b, off + k * 2, none⟩) hbl).trans y0
        have hy1 : ∀ wx, Below wr.heap.size wr wx → wx.cell? ⟨b, off + k * 2 + 1, none⟩ = some (.string (Str xb)) := fun wx hx => (hx.cell (p := ⟨b, off + k * 2 + 1, none⟩) hbl).trans y1
        have HL1 : Hid (Below wr.heap.size wr wr) := Lib.hid (Below.refl _ _)
        clear y0 y1 hq HC
        cases q
        all_goals
          go_wp2_with fail
          go_region_held3 (fun wx => Below wr.heap.size wr wx)
            (repeat (first | with_reducible assumption | with_reducible exact HL1.out | with_reducible refine Below.drew ?_ | with_reducible refine keepA ?_ _))
            (first
              | (go_at_call 93; (refine (HC1.out _).mono ?_); rintro e2 y2 ⟨rfl, hG2⟩; have hS2 : Below wr.heap.size wr y2 := keepG (by repeat (first | with_reducible assumption | with_reducible exact HL1.out | with_reducible refine Below.drew ?_)) hG2)
              | fail "no arm")
        · have HF : Hid (Below w.heap.size w y2) := Lib.hid ((HBC.out.trans (Hbel.out.mono HBC.out.size)).trans (hS2.mono (Nat.le_trans HBC.out.size hsz)))
          clear hS2 hG2 hx0 hx1 hy0 hy1
          go_wp2
          go_ret
          exact ⟨ret_bool (by rw [HLL.out, HN.out trivial]), HF.out⟩
        · have HF : Hid (Below wc.heap.size wc y2) := Lib.hid (Hbel.out.trans (hS2.mono Hbel.out.size))
          clear hS2 hG2 hx0 hx1 hy0 hy1
          go_wp2
          go_roundw
          case rel => exact ⟨k + 1, by omega, by go_num, by rw [HT.out, HALL.out]; rfl, HF.out⟩
          case measure => simp [intOf]; omega
      · obtain rfl : k = L.length := by omega
        rw [List.take_length] at HALL
        go_wp2
        go_ret
        exact ⟨ret_bool (by rw [HLL.out, HALL.out]), HBC.out.trans (Hbel.out.mono HBC.out.size)⟩
set_option maxRecDepth 100000 in
set_option maxHeartbeats 8000000 in
theorem rcrosses_w (m : Ms) (v : Value) (ps : List Bs) (w : World) (hz : SizeM m) (hk : OneToSix m) (h : IsStrs w v ps) (hs : SrtP ps) (hl : ps.length ≤ 1000) :
    Calls Tryz.prog 20 #[msgV m, v] w fun e w' => e = .returned (.bool (crossB m ps)) ∧ Below w.heap.size w w' := by
  have mixed := mixedA
  rw [cross_iff hs]
  have hmv := fun wx => rmoves_w m wx
  have hli := fun s wx => rlies_w m s wx hz hk
  obtain ⟨W1, hW1⟩ : ∃ W1, W1 = w.alloc (.cells (encM m) 40) := ⟨_, rfl⟩
  have hB1 : Blk W1 w.heap.size 40 (encM m) := by rw [hW1]; exact Blk.new _ _ _
  have hg1 : Below w.heap.size w W1 := by rw [hW1]; exact below_box _
  have hsp := fun wx (hx : Below W1.heap.size W1 wx) => spans8_w v ps wx ((h.below hg1).below hx) hl
  have hx : ∀ i x, (encM m)[i]? = some x → ∀ wx, Below W1.heap.size W1 wx → wx.cell? ⟨w.heap.size, i, none⟩ = some x := fun i x hi wx hg => (Blk.below hB1 hg hB1.lt).c0 i x hi
  have x0 : ∀ wx, Below W1.heap.size W1 wx → wx.cell? ⟨w.heap.size, 0, none⟩ = some (.int .i64 m.kind) := hx 0 _ rfl
  have x1 : ∀ wx, Below W1.heap.size W1 wx → wx.cell? ⟨w.heap.size, 1, none⟩ = some (.string (Str m.key)) := hx 1 _ rfl
  have x2 : ∀ wx, Below W1.heap.size W1 wx → wx.cell? ⟨w.heap.size, 2, none⟩ = some (.string (Str m.val)) := hx 2 _ rfl
  have x3 : ∀ wx, Below W1.heap.size W1 wx → wx.cell? ⟨w.heap.size, 3, none⟩ = some (.string (Str m.lo)) := hx 3 _ rfl
  have x4 : ∀ wx, Below W1.heap.size W1 wx → wx.cell? ⟨w.heap.size, 4, none⟩ = some (.string (Str m.hi)) := hx 4 _ rfl
  have x5 : ∀ wx, Below W1.heap.size W1 wx → wx.cell? ⟨w.heap.size, 5, none⟩ = some (.string (Str m.src)) := hx 5 _ rfl
  have x6 : ∀ wx, Below W1.heap.size W1 wx → wx.cell? ⟨w.heap.size, 6, none⟩ = some (.string (Str m.dst)) := hx 6 _ rfl
  have x7 : ∀ wx, Below W1.heap.size W1 wx → wx.cell? ⟨w.heap.size, 7, none⟩ = some (.int .i64 m.n) := hx 7 _ rfl
  have HX := Lib.hid hx
  have HS0 : Hid (Below W1.heap.size W1 W1) := Lib.hid (Below.refl _ _)
  have hkl := kids_len ps
  generalize kidsS ps = K at *
  generalize hmB : movesB m = mb at *
  have HMV := Lib.hid hmv
  have HLI := Lib.hid hli
  have HSP := Lib.hid hsp
  have HG1 := Lib.hid hg1
  have HW1 := Lib.hid hW1
  clear hmv hli hsp hB1 hg1 hx hW1 hz hk hmB hs
  have hKz : (K.length : Int) ≤ 9223372036854775807 := by omega
  clear hkl hl
  go_enter Tryz.func20, Tryz.ntmps20
  go_wp2_with fail
  rw [← HW1.out]
  go_cut [5, 6] (fun s5 s6 wx => s6 = .bool mb ∧ Hid (SpsAt W1 s5 K wx))
  case first =>
    go_region_held3 (fun wx => Below W1.heap.size W1 wx)
      (repeat (first | with_reducible assumption | with_reducible exact HS0.out | with_reducible refine Below.drew ?_ | with_reducible refine keepA ?_ _))
      (first
        | (go_at_call 13; (refine (HSP.out _ (by repeat (first | with_reducible assumption | with_reducible exact HS0.out | with_reducible refine Below.drew ?_ | with_reducible refine keepA ?_ _))).mono ?_); rintro e2 y2 ⟨v2, rfl, ho2, hb2⟩; have hS2 : Below W1.heap.size W1 y2 := keepB (by repeat (first | with_reducible assumption | with_reducible exact HS0.out | with_reducible refine Below.drew ?_ | with_reducible refine keepA ?_ _)) hb2; have hi2 := IsSpans.owned ho2; obtain ⟨pK, cK, rfl, -⟩ := id hi2)
        | (go_at_call 56; (refine (HMV.out _).mono ?_); rintro e3 y3 ⟨rfl, hG3⟩; have hS3 : Below W1.heap.size W1 y3 := keepG (by repeat (first | with_reducible assumption | with_reducible exact HS0.out | with_reducible refine Below.drew ?_ | with_reducible refine keepA ?_ _)) hG3; have hi3 := hi2.below (hG3.below (Nat.le_refl _)))
        | fail "no arm")
    all_goals (go_wp2_with fail; go_meet)
    all_goals exact ⟨rfl, Lib.hid ⟨_, _, rfl, hi3, hS3⟩⟩
  case rest =>
    obtain ⟨rfl, hcut⟩ := hcut
    clear x0 x1 x2 x3 x4 x5 x6 x7 HMV HSP
    obtain ⟨aK, cK, rfl, h5, hb5⟩ := hcut.out
    have H5 := Lib.hid h5
    have HBC := Lib.hid (HG1.out.trans (hb5.mono HG1.out.size))
    have HB5 := Lib.hid hb5
    clear hcut h5 hb5
    go_wp2
    go_loopw [6, 7] (fun c i wr => ∃ k : Nat, k ≤ K.length ∧ i = .int .i64 k ∧ c = .bool (mb && (K.take k).all fun s => !liesB m s) ∧ Below wc.heap.size wc wr) (fun _ i _ => K.length - (intOf i).toNat)
    case atStart => exact ⟨0, Nat.zero_le _, rfl, by simp, Below.refl _ _⟩
    case round =>
      obtain ⟨k, hk, rfl, rfl, hbel⟩ := hrel
      have Hbel := Lib.hid hbel
      have hsz := hbel.size
      clear hbel
      by_cases hlt : k < K.length
      · have hltz : (k : Int) < (K.length : Int) := by omega
        obtain ⟨b, off, cap', he, hbl, hlz, y0, y1⟩ := span_cells (H5.out.below Hbel.out) k hlt
        injection he with he1 he2 he3
        subst he1 he3
        clear he2
        have HT := Lib.hid (show (mb && (K.take (k + 1)).all fun s => !liesB m s) = ((mb && (K.take k).all fun s => !liesB m s) && !liesB m K[k]) by rw [List.take_succ_eq_append_getElem hlt, List.all_append, ← Bool.and_assoc]; simp)
        have HC1 := Lib.hid (fun wx => HLI.out K[k] wx)
        generalize K[k] = x at *
        obtain ⟨xa, xb⟩ := x
        dsimp only at y0 y1
        generalize hpre : (mb && (K.take k).all fun s => !liesB m s) = pr at *
        have HPRE := Lib.hid hpre
        simp only [strS] at HC1
        generalize liesB m (xa, xb) = q at *
        have hxr : ∀ i x, (encM m)[i]? = some x → ∀ wx, Below wr.heap.size wr wx → wx.cell? ⟨w.heap.size, i, none⟩ = some x := fun i x hi wx hx => HX.out i x hi wx (keepB (keepB HB5.out Hbel.out) hx)
        have x0 : ∀ wx, Below wr.heap.size wr wx → wx.cell? ⟨w.heap.size, 0, none⟩ = some (.int .i64 m.kind) := hxr 0 _ rfl
        have x1 : ∀ wx, Below wr.heap.size wr wx → wx.cell? ⟨w.heap.size, 1, none⟩ = some (.string (Str m.key)) := hxr 1 _ rfl
        have x2 : ∀ wx, Below wr.heap.size wr wx → wx.cell? ⟨w.heap.size, 2, none⟩ = some (.string (Str m.val)) := hxr 2 _ rfl
        have x3 : ∀ wx, Below wr.heap.size wr wx → wx.cell? ⟨w.heap.size, 3, none⟩ = some (.string (Str m.lo)) := hxr 3 _ rfl
        have x4 : ∀ wx, Below wr.heap.size wr wx → wx.cell? ⟨w.heap.size, 4, none⟩ = some (.string (Str m.hi)) := hxr 4 _ rfl
        have x5 : ∀ wx, Below wr.heap.size wr wx → wx.cell? ⟨w.heap.size, 5, none⟩ = some (.string (Str m.src)) := hxr 5 _ rfl
        have x6 : ∀ wx, Below wr.heap.size wr wx → wx.cell? ⟨w.heap.size, 6, none⟩ = some (.string (Str m.dst)) := hxr 6 _ rfl
        have x7 : ∀ wx, Below wr.heap.size wr wx → wx.cell? ⟨w.heap.size, 7, none⟩ = some (.int .i64 m.n) := hxr 7 _ rfl
        have hy0 : ∀ wx, Below wr.heap.size wr wx → wx.cell? ⟨b, off + k * 2, none⟩ = some (.string (Str xa)) := fun wx hx => (hx.cell (p := ⟨b, off + k * 2, none⟩) hbl).trans y0
        have hy1 : ∀ wx, Below wr.heap.size wr wx → wx.cell? ⟨b, off + k * 2 + 1, none⟩ = some (.string (Str xb)) := fun wx hx => (hx.cell (p := ⟨b, off + k * 2 + 1, none⟩) hbl).trans y1
        have HL1 : Hid (Below wr.heap.size wr wr) := Lib.hid (Below.refl _ _)
        clear hpre hxr
        cases pr with
        | false =>
          clear x0 x1 x2 x3 x4 x5 x6 x7 hy0 hy1 y0 y1
          go_wp2_with fail
          refine wp_region_quiet_grown mixed (by kernel_rfl) ?_
          repeat (first | go_big_quiet_skip | (refine wpQuiet_step (fun K hK => ?_); have HK := Lib.hid hK; clear hK; go_simp; (refine HK.out _ ?_; clear HK K)))
          refine wpQuiet_nil ?_
          intro _ hw'
          obtain ⟨⟨nq, osq⟩, hw''⟩ := hw'
          subst hw''
          have HGG : Hid (Below wc.heap.size wc (grow (wr.drewN nq) osq)) := Lib.hid (Hbel.out.trans (below_grown wr nq osq hsz))
          generalize grow (wr.drewN nq) osq = wz at *
          go_wp2
          go_roundw
          case rel => exact ⟨k + 1, by omega, by go_num, by rw [HT.out, Bool.false_and], HGG.out⟩
          case measure => simp [intOf]; omega
        | true =>
          clear y0 y1
          cases q
          all_goals
            go_wp2_with fail
            go_region_held3 (fun wx => Below wr.heap.size wr wx)
              (repeat (first | with_reducible assumption | with_reducible exact HL1.out | with_reducible refine Below.drew ?_ | with_reducible refine keepA ?_ _))
              (first
                | (go_at_call 57; (refine (HC1.out _).mono ?_); rintro e2 y2 ⟨rfl, hb2⟩; have hS2 : Below wr.heap.size wr y2 := keepB (by repeat (first | with_reducible assumption | with_reducible exact HL1.out | with_reducible refine Below.drew ?_)) hb2)
                | fail "no arm")
            all_goals
              have HF : Hid (Below wc.heap.size wc y2) := Lib.hid (Hbel.out.trans (hS2.mono Hbel.out.size))
              clear hS2 hb2 hy0 hy1 x0 x1 x2 x3 x4 x5 x6 x7
              go_wp2
              go_roundw
              case rel => exact ⟨k + 1, by omega, by go_num, by rw [HT.out]; rfl, HF.out⟩
              case measure => simp [intOf]; omega
      · obtain rfl : k = K.length := by omega
        rw [List.take_length]
        go_wp2
        go_ret
        exact ⟨rfl, HBC.out.trans (Hbel.out.mono HBC.out.size)⟩

end Go.Proofs.YtfpcaoacbjhkgaaGreat
