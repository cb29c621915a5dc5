/-
  The walk of the law PathKeys.
-/
import Derived.Test.YticlomakmcjcfaaWC
import Derived.Test.YticlomakmcjcfaaS3
namespace Go.Proofs.Yticlomakmcjcfaa
open Go.RowKit
set_option linter.unusedVariables false
set_option linter.unusedSimpArgs false

theorem lt_one {a b : Nat} (h : a + 1 ≤ b) : a < b := h
theorem lt_two {a b : Nat} (h : a + 1 + 1 ≤ b) : a < b ∧ a + 1 < b := ⟨by omega, h⟩
theorem lt_ch1 {a b c : Nat} (h : a < b) (k : b + 1 ≤ c) : a < c := by omega
theorem lt_ch2 {a b c : Nat} (h : a < b) (k : b + 1 + 1 ≤ c) : a < c := by omega
theorem Blk.drew {w : World} {b : Nat} {T : TypeId} {cs : Array Value} (h : Blk w b T cs) : Blk w.drew b T cs := h
theorem Blk.new2 (w : World) (T : TypeId) (cs : Array Value) (o : Obj) : Blk ((w.alloc (.cells cs T)).alloc o) w.heap.size T cs := (Blk.new w T cs).alloc o
theorem four0 {W : World} {o : Nat} {T : TypeId} {x0 x1 x2 x3 : Value} (h : Blk W o T #[x0, x1, x2, x3]) {a b c d : Value} : ((((W.setCell ⟨o, 0, none⟩ a).setCell ⟨o, 1, none⟩ b).setCell ⟨o, 2, none⟩ c).setCell ⟨o, 3, none⟩ d).cell? ⟨o, 0, none⟩ = some a := by
  rw [((((h.setCell 0 a).setCell 1 b).setCell 2 c).setCell 3 d).cell]; simp
theorem four1 {W : World} {o : Nat} {T : TypeId} {x0 x1 x2 x3 : Value} (h : Blk W o T #[x0, x1, x2, x3]) {a b c d : Value} : ((((W.setCell ⟨o, 0, none⟩ a).setCell ⟨o, 1, none⟩ b).setCell ⟨o, 2, none⟩ c).setCell ⟨o, 3, none⟩ d).cell? ⟨o, 1, none⟩ = some b := by
  rw [((((h.setCell 0 a).setCell 1 b).setCell 2 c).setCell 3 d).cell]; simp
theorem four2 {W : World} {o : Nat} {T : TypeId} {x0 x1 x2 x3 : Value} (h : Blk W o T #[x0, x1, x2, x3]) {a b c d : Value} : ((((W.setCell ⟨o, 0, none⟩ a).setCell ⟨o, 1, none⟩ b).setCell ⟨o, 2, none⟩ c).setCell ⟨o, 3, none⟩ d).cell? ⟨o, 2, none⟩ = some c := by
  rw [((((h.setCell 0 a).setCell 1 b).setCell 2 c).setCell 3 d).cell]; simp
theorem four3 {W : World} {o : Nat} {T : TypeId} {x0 x1 x2 x3 : Value} (h : Blk W o T #[x0, x1, x2, x3]) {a b c d : Value} : ((((W.setCell ⟨o, 0, none⟩ a).setCell ⟨o, 1, none⟩ b).setCell ⟨o, 2, none⟩ c).setCell ⟨o, 3, none⟩ d).cell? ⟨o, 3, none⟩ = some d := by
  rw [((((h.setCell 0 a).setCell 1 b).setCell 2 c).setCell 3 d).cell]; simp
theorem bcell {W w1 : World} (hb : Below W.heap.size W w1) : (∀ b o, b < W.heap.size → w1.cell? ⟨b, o, none⟩ = W.cell? ⟨b, o, none⟩) ∧ (∀ b o, b < W.heap.size → w1.frozen? ⟨b, o, none⟩ = W.frozen? ⟨b, o, none⟩) :=
  ⟨fun b o h => hb.cell (p := ⟨b, o, none⟩) h, fun b o h => hb.frozen (p := ⟨b, o, none⟩) h⟩

/-- The two boxes of places. -/
def KeysCut (w : World) (p : Bs) (t n : Int) (m : Bs) (p' : Bs) (t' n' : Int) (m' : Bs) (s6 s7 : Value) (wx : World) : Prop :=
  ∃ o6 o7, s6 = .pointer (some ⟨o6, 0, none⟩) ∧ s7 = .pointer (some ⟨o7, 0, none⟩) ∧ Blk wx o6 32 #[.string (Str p), .int .i64 t, .int .i64 n, .string (Str m)] ∧ Blk wx o7 32 #[.string (Str p'), .int .i64 t', .int .i64 n', .string (Str m')] ∧ Below w.heap.size w wx
theorem blkStep {X Y : World} {o : Nat} {T : TypeId} {cs : Array Value} (h : Blk X o T cs) (hb : Below X.heap.size X Y) : Blk Y o T cs := h.below hb h.lt
theorem blkSet4 {W : World} {o : Nat} {T : TypeId} {a b c d : Value} (h : Blk W o T #[.string ⟨#[]⟩, .int .i64 0, .int .i64 0, .string ⟨#[]⟩]) :
    Blk ((((W.setCell ⟨o, 0, none⟩ a).setCell ⟨o, 1, none⟩ b).setCell ⟨o, 2, none⟩ c).setCell ⟨o, 3, none⟩ d) o T #[a, b, c, d] := by
  have := (((h.setCell 0 a).setCell 1 b).setCell 2 c).setCell 3 d
  simpa using this
theorem blkOther4 {W : World} {o c : Nat} {T : TypeId} {cs : Array Value} {x y z u : Value} (h : Blk W o T cs) (hne : o ≠ c) :
    Blk ((((W.setCell ⟨c, 0, none⟩ x).setCell ⟨c, 1, none⟩ y).setCell ⟨c, 2, none⟩ z).setCell ⟨c, 3, none⟩ u) o T cs :=
  (((h.setCell_other hne 0 x).setCell_other hne 1 y).setCell_other hne 2 z).setCell_other hne 3 u
theorem belSet4 {B : Nat} {w W : World} {c : Nat} {x y z u : Value} (h : Below B w W) (hc : B ≤ c) :
    Below B w ((((W.setCell ⟨c, 0, none⟩ x).setCell ⟨c, 1, none⟩ y).setCell ⟨c, 2, none⟩ z).setCell ⟨c, 3, none⟩ u) :=
  (((h.setCell hc _).setCell hc _).setCell hc _).setCell hc _

set_option maxRecDepth 100000 in
set_option maxHeartbeats 8000000 in
theorem pathKeys_walk (w : World) (v0 : Value) (x : RawD) (h0 : IsRaw w v0 x) (v1 : Value) (y : RawD) (h1 : IsRaw w v1 y) :
    Calls Try.prog 5 #[v0, v1] w fun e w' => e = .returned (.bool true) ∧ Below w.heap.size w w' := by
  obtain ⟨rfl, hx, hxt, hxn⟩ := h0
  obtain ⟨rfl, hy, hyt, hyn⟩ := h1
  have hma := fun wx (h : Below w.heap.size w wx) => madePlace_w x.v x.l x.t x.n wx (hx.below h) hxt hxn
  have hmb := fun wx (h : Below w.heap.size w wx) => madePlace_w y.v y.l y.t y.n wx (hy.below h) hyt hyn
  simp only [placeV] at hma hmb
  have Hma := Lib.hid hma
  have Hmb := Lib.hid hmb
  have hsx : ∃ A C, x.v = .slice A x.l.length C := by obtain ⟨A, C, h, _⟩ := hx.form; exact ⟨A, C, h⟩
  have hsy : ∃ A C, y.v = .slice A y.l.length C := by obtain ⟨A, C, h, _⟩ := hy.form; exact ⟨A, C, h⟩
  clear hma hmb hx hy
  obtain ⟨xv, xl, xt, xn⟩ := x
  obtain ⟨yv, yl, yt, yn⟩ := y
  simp only at hsx hsy Hma Hmb hxt hxn hyt hyn
  obtain ⟨A, C, rfl⟩ := hsx
  obtain ⟨A', C', rfl⟩ := hsy
  have hoX := raw_owns xl xt xn hxn
  have hfX := raw_fits xt xn
  have hoY := raw_owns yl yt yn hyn
  have hfY := raw_fits yt yn
  have lX := rawPath_le xl xt xn
  have lY := rawPath_le yl yt yn
  have mX := rawM_le xt xn
  have mY := rawM_le yt yn
  generalize rawPath xl xt xn = pX at *
  generalize (1 + ((xt % 4 : Nat) : Int)) = tX at *
  generalize rawN xt xn = nX at *
  generalize rawM xt xn = mmX at *
  generalize rawPath yl yt yn = pY at *
  generalize (1 + ((yt % 4 : Nat) : Int)) = tY at *
  generalize rawN yt yn = nY at *
  generalize rawM yt yn = mmY at *
  have hkX : keyF pX tX nX mmX = (keyK tX pX nX mmX, 0) := by unfold keyF; rw [if_pos ⟨hoX, hfX⟩]
  have hkY : keyF pY tY nY mmY = (keyK tY pY nY mmY, 0) := by unfold keyF; rw [if_pos ⟨hoY, hfY⟩]
  have hinj : keyK tX pX nX mmX = keyK tY pY nY mmY → pX = pY ∧ tX = tY ∧ nX = nY ∧ mmX = mmY := fun h => key_inj hoX hfX hoY hfY h
  have hcong : pX = pY → tX = tY → nX = nY → mmX = mmY → keyK tX pX nX mmX = keyK tY pY nY mmY := fun h1 h2 h3 h4 => by rw [h1, h2, h3, h4]
  have hpX : placeR (keyK tX pX nX mmX) = .tuple #[placeV pX tX nX mmX, .int .i64 0] := by unfold placeR; rw [place_key hoX hfX]
  have hlk : (keyK tX pX nX mmX).length ≤ 100 := by have := keyK_le tX pX nX mmX; omega
  generalize keyK tX pX nX mmX = kX at *
  generalize keyK tY pY nY mmY = kY at *
  clear hoX hfX hoY hfY
  have HF := Lib.hid (And.intro hkX (And.intro hkY (And.intro hinj (And.intro hcong (And.intro hpX (And.intro hlk (And.intro lX (And.intro lY (And.intro mX mY)))))))))
  clear hkX hkY hinj hcong hpX hlk lX lY mX mY
  have HB : Hid (Below w.heap.size w ((w.alloc (.cells #[.slice A xl.length C, .int .u8 xt, .int .u16 xn] 44)).alloc (.cells #[.slice A' yl.length C', .int .u8 yt, .int .u16 yn] 44))) := Lib.hid (((Below.refl _ _).alloc (Nat.le_refl _) _).alloc (by simp) _)
  have HX : Hid (Blk ((w.alloc (.cells #[.slice A xl.length C, .int .u8 xt, .int .u16 xn] 44)).alloc (.cells #[.slice A' yl.length C', .int .u8 yt, .int .u16 yn] 44)) w.heap.size 44 #[.slice A xl.length C, .int .u8 xt, .int .u16 xn]) := Lib.hid ((Blk.new _ _ _).alloc _)
  have HY : Hid (Blk ((w.alloc (.cells #[.slice A xl.length C, .int .u8 xt, .int .u16 xn] 44)).alloc (.cells #[.slice A' yl.length C', .int .u8 yt, .int .u16 yn] 44)) (w.heap.size + 1) 44 #[.slice A' yl.length C', .int .u8 yt, .int .u16 yn]) := Lib.hid (Blk.new' _ _ _ (by simp))
  go_enter Try.func5, Try.ntmps5
  go_upto_region 2 with (go_at_call 14; refine (sanity_w _).mono ?_; rintro e w1 ⟨rfl, hb⟩; have bX := Blk.below HX.out hb (by simp; try omega); have bY := Blk.below HY.out hb (by simp; try omega); have c0 := bX.cell 0; have c1 := bX.cell 1; have c2 := bX.cell 2; have d0 := bY.cell 0; have d1 := bY.cell 1; have d2 := bY.cell 2; simp at c0 c1 c2 d0 d1 d2; replace HX := Lib.hid bX; replace HY := Lib.hid bY; have hz : w.heap.size + 2 ≤ w1.heap.size := (by have hsz := hb.size; simp only [World.size_drew, World.size_alloc] at hsz; omega); replace HB := Lib.hid (Below.next HB.out (Nat.le_refl _) hb); clear hb bX bY)
  go_cut [6, 7] (fun s6 s7 wx => KeysCut w pX tX nX mmX pY tY nY mmY s6 s7 wx)
  case first =>
    go_region_held3 (fun wr => wr.cell? ⟨w.heap.size, 0, none⟩ = some (.slice A xl.length C) ∧ wr.cell? ⟨w.heap.size, 1, none⟩ = some (.int .u8 xt) ∧ wr.cell? ⟨w.heap.size, 2, none⟩ = some (.int .u16 xn) ∧ wr.cell? ⟨w.heap.size + 1, 0, none⟩ = some (.slice A' yl.length C') ∧ wr.cell? ⟨w.heap.size + 1, 1, none⟩ = some (.int .u8 yt) ∧ wr.cell? ⟨w.heap.size + 1, 2, none⟩ = some (.int .u16 yn))
      (((try dsimp only); (refine ⟨?_, ?_, ?_, ?_, ?_, ?_⟩) <;> ((repeat (first | with_reducible assumption | rw [World.cell?_drew] | rw [World.cell?_alloc_lt _ _ _ (by first | omega | (dsimp only; omega) | (simp only [World.size_alloc, World.size_drew, World.size_setCell]; omega))] | rw [World.cell?_setCell_far _ _ _ _ (by first | omega | (dsimp only; omega) | (simp only [World.size_alloc, World.size_drew, World.size_setCell]; omega))])); done)))
      (first
        | (go_at_call_of 30 (Value.slice A' yl.length C'); refine (Hmb.out _ (by repeat (first | with_reducible exact HB.out | with_reducible refine Below.drew ?_ | with_reducible refine Below.alloc ?_ ?_ _ | with_reducible refine Below.setCell ?_ ?_ _ | (have h := HB.out.size; dsimp only; omega) | (have h := HB.out.size; simp only [World.size_drew, World.size_alloc, World.size_setCell]; omega) | (have h := HB.out.size; omega)))).mono ?_; rintro e wb ⟨rfl, hb⟩; have bX : Blk wb w.heap.size 44 #[.slice A xl.length C, .int .u8 xt, .int .u16 xn] := Blk.below (by repeat (first | with_reducible exact HX.out | with_reducible refine Blk.drew ?_ | with_reducible refine Blk.alloc ?_ _ | with_reducible refine Blk.setCell_other ?_ ?_ _ _ | (have h := HB.out.size; omega) | (have h2 := HX.out.lt; have h3 := HY.out.lt; omega))) hb (by have h := HX.out.lt; first | omega | (simp only [World.size_drew, World.size_alloc, World.size_setCell]; omega)); have bY : Blk wb (w.heap.size + 1) 44 #[.slice A' yl.length C', .int .u8 yt, .int .u16 yn] := Blk.below (by repeat (first | with_reducible exact HY.out | with_reducible refine Blk.drew ?_ | with_reducible refine Blk.alloc ?_ _ | with_reducible refine Blk.setCell_other ?_ ?_ _ _ | (have h := HB.out.size; omega) | (have h2 := HX.out.lt; have h3 := HY.out.lt; omega))) hb (by have h := HY.out.lt; first | omega | (simp only [World.size_drew, World.size_alloc, World.size_setCell]; omega)); have k0 := bX.cell 0; have k1 := bX.cell 1; have k2 := bX.cell 2; have l0 := bY.cell 0; have l1 := bY.cell 1; have l2 := bY.cell 2; simp at k0 k1 k2 l0 l1 l2; obtain ⟨hc, hf⟩ := bcell hb; have hzz := hb.size; (try simp only [World.size_drew, World.size_alloc, World.size_setCell] at hzz); (try simp only [World.size_drew, World.size_alloc, World.size_setCell] at hc); (try simp only [World.size_drew, World.size_alloc, World.size_setCell] at hf); (first | (have Q1wb := lt_two hzz; obtain ⟨Q1wb, Q2wb⟩ := Q1wb; have Q3wb := Nat.lt_succ_of_lt Q1wb; have Q4wb := Nat.lt_succ_of_lt Q3wb; have Q5wb := Nat.lt_succ_of_lt Q2wb) | (have Q1wb := lt_one hzz; have Q3wb := Nat.lt_succ_of_lt Q1wb; have Q4wb := Nat.lt_succ_of_lt Q3wb) | skip); (first | (have R0Q1wa := Nat.lt_of_lt_of_le Q1wa hzz) | (have R0Q1wa := lt_ch1 Q1wa hzz) | (have R0Q1wa := lt_ch2 Q1wa hzz) | skip); (first | (have R0Q2wa := Nat.lt_of_lt_of_le Q2wa hzz) | (have R0Q2wa := lt_ch1 Q2wa hzz) | (have R0Q2wa := lt_ch2 Q2wa hzz) | skip); have HBwb := Lib.hid hb; replace HX := Lib.hid bX; replace HY := Lib.hid bY; replace HB := Lib.hid (Below.next (B := w.heap.size) (w := w) (by repeat (first | with_reducible exact HB.out | with_reducible refine Below.drew ?_ | with_reducible refine Below.alloc ?_ ?_ _ | with_reducible refine Below.setCell ?_ ?_ _ | (have h := HB.out.size; dsimp only; omega) | (have h := HB.out.size; simp only [World.size_drew, World.size_alloc, World.size_setCell]; omega) | (have h := HB.out.size; omega))) (Nat.le_refl _) hb); clear hb bX bY)
        | (go_at_call_of 30 (Value.slice A xl.length C); refine (Hma.out _ (by repeat (first | with_reducible exact HB.out | with_reducible refine Below.drew ?_ | with_reducible refine Below.alloc ?_ ?_ _ | with_reducible refine Below.setCell ?_ ?_ _ | (have h := HB.out.size; dsimp only; omega) | (have h := HB.out.size; simp only [World.size_drew, World.size_alloc, World.size_setCell]; omega) | (have h := HB.out.size; omega)))).mono ?_; rintro e wa ⟨rfl, hb⟩; have bX : Blk wa w.heap.size 44 #[.slice A xl.length C, .int .u8 xt, .int .u16 xn] := Blk.below (by repeat (first | with_reducible exact HX.out | with_reducible refine Blk.drew ?_ | with_reducible refine Blk.alloc ?_ _ | with_reducible refine Blk.setCell_other ?_ ?_ _ _ | (have h := HB.out.size; omega) | (have h2 := HX.out.lt; have h3 := HY.out.lt; omega))) hb (by have h := HX.out.lt; first | omega | (simp only [World.size_drew, World.size_alloc, World.size_setCell]; omega)); have bY : Blk wa (w.heap.size + 1) 44 #[.slice A' yl.length C', .int .u8 yt, .int .u16 yn] := Blk.below (by repeat (first | with_reducible exact HY.out | with_reducible refine Blk.drew ?_ | with_reducible refine Blk.alloc ?_ _ | with_reducible refine Blk.setCell_other ?_ ?_ _ _ | (have h := HB.out.size; omega) | (have h2 := HX.out.lt; have h3 := HY.out.lt; omega))) hb (by have h := HY.out.lt; first | omega | (simp only [World.size_drew, World.size_alloc, World.size_setCell]; omega)); have k0 := bX.cell 0; have k1 := bX.cell 1; have k2 := bX.cell 2; have l0 := bY.cell 0; have l1 := bY.cell 1; have l2 := bY.cell 2; simp at k0 k1 k2 l0 l1 l2; obtain ⟨hc, hf⟩ := bcell hb; have hzz := hb.size; (try simp only [World.size_drew, World.size_alloc, World.size_setCell] at hzz); (try simp only [World.size_drew, World.size_alloc, World.size_setCell] at hc); (try simp only [World.size_drew, World.size_alloc, World.size_setCell] at hf); (first | (have Q1wa := lt_two hzz; obtain ⟨Q1wa, Q2wa⟩ := Q1wa; have Q3wa := Nat.lt_succ_of_lt Q1wa; have Q4wa := Nat.lt_succ_of_lt Q3wa; have Q5wa := Nat.lt_succ_of_lt Q2wa) | (have Q1wa := lt_one hzz; have Q3wa := Nat.lt_succ_of_lt Q1wa; have Q4wa := Nat.lt_succ_of_lt Q3wa) | skip); have HBwa := Lib.hid hb; replace HX := Lib.hid bX; replace HY := Lib.hid bY; replace HB := Lib.hid (Below.next (B := w.heap.size) (w := w) (by repeat (first | with_reducible exact HB.out | with_reducible refine Below.drew ?_ | with_reducible refine Below.alloc ?_ ?_ _ | with_reducible refine Below.setCell ?_ ?_ _ | (have h := HB.out.size; dsimp only; omega) | (have h := HB.out.size; simp only [World.size_drew, World.size_alloc, World.size_setCell]; omega) | (have h := HB.out.size; omega))) (Nat.le_refl _) hb); clear hb bX bY))
    all_goals (go_wp2_with fail; go_meet)
    all_goals
      have hsa := HBwa.out.size
      have hsb := HBwb.out.size
      simp only [World.size_drew, World.size_alloc, World.size_setCell] at hsa hsb
      clear hc hf
      refine ⟨_, _, rfl, rfl, ?_, ?_, ?_⟩
      · (repeat (first
          | with_reducible exact Blk.new _ _ _
          | with_reducible refine Blk.drew ?_
          | with_reducible refine blkSet4 ?_
          | with_reducible refine blkOther4 ?_ (by omega)
          | (with_reducible refine Blk.new' _ _ _ ?_; (first | rfl | (simp; done)))
          | with_reducible refine Blk.alloc ?_ _
          | with_reducible refine blkStep ?_ HBwb.out
          | with_reducible refine blkStep ?_ HBwa.out))
      · (repeat (first
          | with_reducible exact Blk.new _ _ _
          | with_reducible refine Blk.drew ?_
          | with_reducible refine blkSet4 ?_
          | with_reducible refine blkOther4 ?_ (by omega)
          | (with_reducible refine Blk.new' _ _ _ ?_; (first | rfl | (simp; done)))
          | with_reducible refine Blk.alloc ?_ _
          | with_reducible refine blkStep ?_ HBwb.out
          | with_reducible refine blkStep ?_ HBwa.out))
      · (repeat (first | with_reducible exact HB.out | with_reducible refine Below.drew ?_ | with_reducible refine belSet4 ?_ (by have h := HB.out.size; omega) | with_reducible refine Below.alloc ?_ (by have h := HB.out.size; first | omega | (simp only [World.size_drew, World.size_alloc, World.size_setCell]; omega)) _))
  case rest =>
    obtain ⟨o6, o7, rfl, rfl, hp6, hp7, hB⟩ := hcut
    obtain ⟨hkX, hkY, hinj, hcong, hpX, hlk, lX, lY, mX, mY⟩ := HF.out
    have hkx := fun wx => keyF_w tX nX (Str pX) (Str mmX) wx (by rw [size_Str]; omega) (by rw [size_Str]; omega)
    have hky := fun wx => keyF_w tY nY (Str pY) (Str mmY) wx (by rw [size_Str]; omega) (by rw [size_Str]; omega)
    have hpl := fun wx => place_w (Str kX) wx (by rw [size_Str]; unfold maxLen; omega)
    simp only [toList_Str, hkX, hkY, hpX, placeV] at hkx hky hpl
    have Hkx := Lib.hid hkx
    have Hky := Lib.hid hky
    have Hpl := Lib.hid hpl
    have hcase : ((pX == pY) = false ∧ (kX == kY) = false) ∨ ((pX == pY) = true ∧ (tX == tY) = false ∧ (kX == kY) = false) ∨ ((pX == pY) = true ∧ (tX == tY) = true ∧ (nX == nY) = false ∧ (kX == kY) = false) ∨
        ((pX == pY) = true ∧ (tX == tY) = true ∧ (nX == nY) = true ∧ (mmX == mmY) = false ∧ (kX == kY) = false) ∨ ((pX == pY) = true ∧ (tX == tY) = true ∧ (nX == nY) = true ∧ (mmX == mmY) = true ∧ (kX == kY) = true) := by
      have hne : ∀ h : ¬ (pX = pY ∧ tX = tY ∧ nX = nY ∧ mmX = mmY), (kX == kY) = false := fun h => by
        simp only [beq_eq_false_iff_ne, ne_eq]
        exact fun e => h (hinj e)
      by_cases g1 : pX = pY
      · by_cases g2 : tX = tY
        · by_cases g3 : nX = nY
          · by_cases g4 : mmX = mmY
            · right; right; right; right
              exact ⟨by simp [g1], by simp [g2], by simp [g3], by simp [g4], by simp [hcong g1 g2 g3 g4]⟩
            · right; right; right; left
              exact ⟨by simp [g1], by simp [g2], by simp [g3], by simp [g4], hne (fun h => g4 h.2.2.2)⟩
          · right; right; left
            exact ⟨by simp [g1], by simp [g2], by simp [g3], hne (fun h => g3 h.2.2.1)⟩
        · right; left
          exact ⟨by simp [g1], by simp [g2], hne (fun h => g2 h.2.1)⟩
      · left
        exact ⟨by simp [g1], hne (fun h => g1 h.1)⟩
    have HP6 := Lib.hid hp6
    have HP7 := Lib.hid hp7
    replace HB := Lib.hid hB
    have a0 := hp6.cell 0
    have a1 := hp6.cell 1
    have a2 := hp6.cell 2
    have a3 := hp6.cell 3
    have b0 := hp7.cell 0
    have b1 := hp7.cell 1
    have b2 := hp7.cell 2
    have b3 := hp7.cell 3
    simp at a0 a1 a2 a3 b0 b1 b2 b3
    have l6 := hp6.lt
    have l7 := hp7.lt
    clear hp6 hp7 hB hkx hky hpl hkX hkY hpX hinj hcong HX HY Hma Hmb c0 c1 c2 d0 d1 d2 hz lX lY mX mY hlk hxt hxn hyt hyn HF
    rcases hcase with ⟨e1, e2⟩ | ⟨e1, e2, e3⟩ | ⟨e1, e2, e3, e4⟩ | ⟨e1, e2, e3, e4, e5⟩ | ⟨e1, e2, e3, e4, e5⟩
    all_goals
      go_wp2_with (first
        | (go_at_call_of 31 (Str pX); ((with_reducible refine (Hkx.out _).mono ?_); rintro e wa ⟨rfl, hb⟩; have p6 := HP6.out.below hb HP6.out.lt; have p7 := HP7.out.below hb HP7.out.lt; replace HP6 := Lib.hid p6; replace HP7 := Lib.hid p7; replace HB := Lib.hid (Below.next HB.out (Nat.le_refl _) hb); clear hb l6 l7 a0 a1 a2 a3 b0 b1 b2 b3; have l6 := p6.lt; have l7 := p7.lt; have a0 := p6.cell 0; have a1 := p6.cell 1; have a2 := p6.cell 2; have a3 := p6.cell 3; have b0 := p7.cell 0; have b1 := p7.cell 1; have b2 := p7.cell 2; have b3 := p7.cell 3; simp at a0 a1 a2 a3 b0 b1 b2 b3; clear p6 p7))
        | (go_at_call_of 31 (Str pY); ((with_reducible refine (Hky.out _).mono ?_); rintro e wa ⟨rfl, hb⟩; have p6 := HP6.out.below hb HP6.out.lt; have p7 := HP7.out.below hb HP7.out.lt; replace HP6 := Lib.hid p6; replace HP7 := Lib.hid p7; replace HB := Lib.hid (Below.next HB.out (Nat.le_refl _) hb); clear hb l6 l7 a0 a1 a2 a3 b0 b1 b2 b3; have l6 := p6.lt; have l7 := p7.lt; have a0 := p6.cell 0; have a1 := p6.cell 1; have a2 := p6.cell 2; have a3 := p6.cell 3; have b0 := p7.cell 0; have b1 := p7.cell 1; have b2 := p7.cell 2; have b3 := p7.cell 3; simp at a0 a1 a2 a3 b0 b1 b2 b3; clear p6 p7))
        | (go_at_call 20; ((with_reducible refine (Hpl.out _).mono ?_); rintro e wa ⟨rfl, hb⟩; have p6 := HP6.out.below hb HP6.out.lt; have p7 := HP7.out.below hb HP7.out.lt; replace HP6 := Lib.hid p6; replace HP7 := Lib.hid p7; replace HB := Lib.hid (Below.next HB.out (Nat.le_refl _) hb); clear hb l6 l7 a0 a1 a2 a3 b0 b1 b2 b3; have l6 := p6.lt; have l7 := p7.lt; have a0 := p6.cell 0; have a1 := p6.cell 1; have a2 := p6.cell 2; have a3 := p6.cell 3; have b0 := p7.cell 0; have b1 := p7.cell 1; have b2 := p7.cell 2; have b3 := p7.cell 3; simp at a0 a1 a2 a3 b0 b1 b2 b3; clear p6 p7)))
    all_goals (go_ret; exact ⟨rfl, HB.out.alloc HB.out.size _⟩)

end Go.Proofs.Yticlomakmcjcfaa
