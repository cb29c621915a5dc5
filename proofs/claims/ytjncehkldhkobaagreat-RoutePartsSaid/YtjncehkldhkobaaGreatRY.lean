/-
  Walks of package route: which messages of a buffer go to a kid, and which stay.
-/
import Derived.Test.YtjncehkldhkobaaGreatRX
namespace Go.Proofs.YtjncehkldhkobaaGreat
open Go.RowKit Go.Sort
set_option linter.unusedVariables false

theorem blk_kept {w w' : World} {b : Nat} {T : TypeId} {cs : Array Value} {row : Option Nat} (h : Blk w b T cs) (hg : w.grownBy w' row) (hne : some b ≠ row) : Blk w' b T cs := by
  unfold Blk at *
  rw [hg.block b (Array.getElem?_eq_some_iff.1 h).1 hne]
  exact h
def ReadyOut (w : World) (s : Sp) (l : List Ms) (e : Ending) (w' : World) : Prop :=
  ∃ v1 v2, e = .returned (.tuple #[v1, v2]) ∧ OwnM w' w.heap.size v1 (readyW s l).1 ∧ OwnM w' w.heap.size v2 (readyW s l).2.1 ∧ Below w.heap.size w w'
/-- What the loop keeps. -/
def RyL (w w1 : World) (s : Sp) (l : List Ms) (vg vs vb iv : Value) (wr : World) : Prop :=
  ∃ (k : Nat) (b : List Sp), k ≤ l.length ∧ iv = .int .i64 k ∧ RyS w w1.heap.size (w1.heap.size + 1) s vg vs vb (readyW s (l.take k)).1 (readyW s (l.take k)).2.1 b wr ∧ OrdD b ∧ (∀ key, inB b key = inB (readyW s (l.take k)).2.2 key) ∧ b.length ≤ 4 * k
theorem RyL.stay {w w1 : World} {s : Sp} {l : List Ms} {k : Nat} (h : k < l.length) (vg vs vb iv : Value) (wy : World) (b' : List Sp) (hiv : iv = .int .i64 (k + 1 : Nat))
    (hno : goesB s (readyW s (l.take k)).2.2 l[k] = false) (hr : RyS w w1.heap.size (w1.heap.size + 1) s vg vs vb (readyW s (l.take k)).1 ((readyW s (l.take k)).2.1 ++ [l[k]]) b' wy) (ho : OrdD b') (hk : ∀ key, inB b' key = inB ((readyW s (l.take k)).2.2 ++ blocksS s l[k]) key) (hl : b'.length ≤ 4 * (k + 1)) :
    RyL w w1 s l vg vs vb iv wy := by
  subst hiv
  refine ⟨k + 1, b', h, rfl, ?_, ho, ?_, hl⟩
  · rw [ready_take s l k h, step_stay hno]; exact hr
  · rw [ready_take s l k h, step_stay hno]; exact hk
theorem RyL.go {w w1 : World} {s : Sp} {l : List Ms} {k : Nat} (h : k < l.length) (vg vs vb iv : Value) (wy : World) (b : List Sp) (hiv : iv = .int .i64 (k + 1 : Nat))
    (hno : goesB s (readyW s (l.take k)).2.2 l[k] = true) (hr : RyS w w1.heap.size (w1.heap.size + 1) s vg vs vb ((readyW s (l.take k)).1 ++ [onlyS l[k] s]) ((readyW s (l.take k)).2.1 ++ restR l[k] s) b wy) (ho : OrdD b) (hk : ∀ key, inB b key = inB (readyW s (l.take k)).2.2 key) (hl : b.length ≤ 4 * k) :
    RyL w w1 s l vg vs vb iv wy := by
  subst hiv
  refine ⟨k + 1, b, h, rfl, ?_, ho, ?_, by omega⟩
  · rw [ready_take s l k h, step_go hno]; exact hr
  · rw [ready_take s l k h, step_go hno]; exact hk

set_option maxRecDepth 100000 in
set_option maxHeartbeats 8000000 in
theorem ready_w (v vp : Value) (l : List Ms) (ps : List Bs) (i : Nat) (w : World) (hm : IsMsgs w v l) (hp : IsStrs w vp ps) (hz : ∀ m ∈ l, SizeM m) (hf : ∀ m ∈ l, FullM m) (hi : i ≤ ps.length) (hsz : SizeP (kidSp ps i)) (hl : l.length ≤ 60) (hpl : ps.length ≤ 1000) :
    Calls Tryz.prog 48 #[v, vp, .int .i64 i] w (ReadyOut w (kidSp ps i) l) := by
  have mixed := mixedA
  have hso := spanOf_w i vp ps w hp hpl hi
  have hrl := ready_lens (kidSp ps i) l
  generalize kidSp ps i = s at *
  simp only [strS] at hso
  have HSO := Lib.hid hso
  have HRL := Lib.hid hrl
  obtain ⟨g, off, cap, p, rfl, hlc, hcm, hpp, hcc⟩ := hm.form
  unfold maxLen at hcm
  have HP := Lib.hid hpp
  have HC := Lib.hid hcc
  have Hz := Lib.hid hz
  have Hf := Lib.hid hf
  have Hsz := Lib.hid hsz
  obtain ⟨ap, cp, rfl, -⟩ := hp
  clear hm hpp hcc hz hf hsz hso hrl hi
  go_enter Tryz.func48, Tryz.ntmps48
  go_wp2_with fail
  refine HSO.out.mono ?_
  rintro e w1 ⟨rfl, hb1⟩
  have HB1 := Lib.hid hb1
  have hR0 : RyS w w1.heap.size (w1.heap.size + 1) s (.slice none 0 0) (.slice none 0 0) (.slice none 0 0) [] [] [] (w1.alloc (.cells #[.string (Str s.1), .string (Str s.2)] 38)) :=
    ⟨World.ownsRow_nil _ _ _ _, World.ownsRow_nil _ _ _ _, World.ownsRow_nil _ _ _ _, fun j hj => by (cases hj), Blk.new _ _ _, hb1.alloc hb1.size _, hb1.size, Nat.lt_succ_self _, by simp⟩
  have HR0 : Hid (RyL w w1 s l (.slice none 0 0) (.slice none 0 0) (.slice none 0 0) (.int .i64 (0 : Nat)) (w1.alloc (.cells #[.string (Str s.1), .string (Str s.2)] 38))) := Lib.hid ⟨0, [], Nat.zero_le _, rfl, hR0, ord_nil, fun key => rfl, Nat.zero_le _⟩
  clear hb1 hR0 HSO
  go_wp2
  go_loopw [9, 10, 11, 21] (fun vg vs vb iv wr => RyL w w1 s l vg vs vb iv wr) (fun _ _ _ iv _ => l.length - (intOf iv).toNat)
  case atStart => exact HR0.out
  case round =>
    obtain ⟨k, b, hk, rfl, hr, hord, hkeys, hbl⟩ := hrel
    have HR := Lib.hid hr
    have HO := Lib.hid hord
    have HKY := Lib.hid hkeys
    clear hr hord hkeys HR0
    by_cases hlt : k < l.length
    · obtain ⟨rfl, hc⟩ := HC.out k hlt
      have hgl := (HP.out (by rintro rfl; simp at hlt)).2
      have hltz : (k : Int) < (l.length : Int) := by omega
      obtain ⟨c0, c1, c2, c3, c4, c5, c6, c7⟩ := hc.below HR.out.bel hgl
      have hzk := Hz.out _ (List.getElem_mem hlt)
      have hfk := Hf.out _ (List.getElem_mem hlt)
      have HGO := Lib.hid (fit_goes hfk s HO.out HKY.out)
      have HBK := Lib.hid (fit_blocks l[k] s)
      have HPT := Lib.hid (fun (h : (fitP l[k] s).isEmpty = false) => fit_part h)
      have HNL := Lib.hid (fitN_len l[k] s)
      have HNF := Lib.hid (fitN_full hfk s)
      have HFW := Lib.hid (fun wx => fit_w l[k] s wx hzk Hsz.out)
      have HRW := Lib.hid (fun wx => restR_w l[k] s wx)
      have HL := Lib.hid (HRL.out k (Nat.le_of_lt hlt))
      have hSTAY := Lib.hid (@RyL.stay w w1 s l k hlt)
      have hGO := Lib.hid (@RyL.go w w1 s l k hlt)
      have hrl2 := restR_len l[k] s
      unfold FitOut at HFW
      clear hc hzk hfk
      generalize l[k] = m at *
      generalize readyW s (l.take k) = W at *
      obtain ⟨G, St, B⟩ := W
      dsimp only at HR HKY HGO HL hSTAY hGO
      have hB1 : Blk (wr.alloc (.cells (encM m) 40)) wr.heap.size 40 (encM m) := Blk.new _ _ _
      have HBX := Lib.hid hB1
      have hkd : Blk (wr.alloc (.cells (encM m) 40)) w1.heap.size 38 #[.string (Str s.1), .string (Str s.2)] := HR.out.kid.alloc _
      have k0 : wr.cell? ⟨w1.heap.size, 0, none⟩ = some (.string (Str s.1)) := HR.out.kid.c0 0 _ rfl
      have k1 : wr.cell? ⟨w1.heap.size, 1, none⟩ = some (.string (Str s.2)) := HR.out.kid.c0 1 _ rfl
      have hk1 : w1.heap.size < wr.heap.size := HR.out.kid.lt
      have HKD := Lib.hid hkd
      clear hB1 hkd
      go_wp2_with fail
      refine (HFW.out _).mono ?_
      rintro e w2 ⟨v1, v2, rfl, hp1, hp2, hfr, hb2⟩
      have hbw : Below wr.heap.size wr w2 := (below_box _).trans (hb2.mono (by simp))
      have HR2 := Lib.hid (HR.out.below hbw)
      have HBX2 := Lib.hid (HBX.out.below hb2 HBX.out.lt)
      have HP1 := Lib.hid hp1
      have HP2 := Lib.hid hp2
      have hfr2 : ∀ j, v2.ownBlock = some j → wr.heap.size < j := fun j hj => by have := hfr j hj; simp at this; omega
      have HFR := Lib.hid hfr2
      have hvs : ∀ j, u10.ownBlock = some j → j < wr.heap.size := fun j hj => (HR.out.st.lt j hj).2
      have hvg : ∀ j, u9.ownBlock = some j → j < wr.heap.size := fun j hj => (HR.out.g.lt j hj).2
      have hvb : ∀ j, u11.ownBlock = some j → j < wr.heap.size := fun j hj => (HR.out.bl.lt j hj).2
      have HVS := Lib.hid hvs
      have HVG := Lib.hid hvg
      have HVB := Lib.hid hvb
      have hsz2 : wr.heap.size < w2.heap.size := Nat.lt_of_lt_of_le (by simp) hb2.size
      obtain ⟨a1, cc1, rfl, hlc1, hcm1, -⟩ := hp1
      obtain ⟨a2, cc2, rfl, hlc2, hcm2, -⟩ := hp2
      unfold maxLen at hcm1 hcm2
      have d0 : w2.cell? ⟨wr.heap.size, 0, none⟩ = some (.int .i64 m.kind) := (HBX2.out).c0 0 _ rfl
      have d1 : w2.cell? ⟨wr.heap.size, 1, none⟩ = some (.string (Str m.key)) := (HBX2.out).c0 1 _ rfl
      have d2 : w2.cell? ⟨wr.heap.size, 2, none⟩ = some (.string (Str m.val)) := (HBX2.out).c0 2 _ rfl
      have d3 : w2.cell? ⟨wr.heap.size, 3, none⟩ = some (.string (Str m.lo)) := (HBX2.out).c0 3 _ rfl
      have d4 : w2.cell? ⟨wr.heap.size, 4, none⟩ = some (.string (Str m.hi)) := (HBX2.out).c0 4 _ rfl
      have d5 : w2.cell? ⟨wr.heap.size, 5, none⟩ = some (.string (Str m.src)) := (HBX2.out).c0 5 _ rfl
      have d6 : w2.cell? ⟨wr.heap.size, 6, none⟩ = some (.string (Str m.dst)) := (HBX2.out).c0 6 _ rfl
      have d7 : w2.cell? ⟨wr.heap.size, 7, none⟩ = some (.int .i64 m.n) := (HBX2.out).c0 7 _ rfl
      have kd0 : w2.cell? ⟨w1.heap.size, 0, none⟩ = some (.string (Str s.1)) := HR2.out.kid.c0 0 _ rfl
      have kd1 : w2.cell? ⟨w1.heap.size, 1, none⟩ = some (.string (Str s.2)) := HR2.out.kid.c0 1 _ rfl
      clear hfr hfr2 hvs hvg hvb hb2 hbw c0 c1 c2 c3 c4 c5 c6 c7 k0 k1 HFW
      have HHIT : Hid (hitB b (fitN m s) = (fitN m s).any fun x => decide (bfrom b x < bto b x)) := Lib.hid rfl
      generalize fitP m s = P at *
      generalize fitN m s = N at *
      have hcases : P = [] ∨ P.isEmpty = false := by cases P with | nil => exact .inl rfl | cons _ _ => exact .inr rfl
      rcases hcases with rfl | hPne
      · -- no part
        have hno : goesB s B m = false := by rw [HGO.out]; rfl
        have HNO := Lib.hid hno
        clear hno HGO HPT HHIT hGO
        dsimp only [List.length_nil] at HP1
        simp only [List.length_nil] at HP1 hlc1
        have HAP : Hid (∀ j, (Value.slice a2 N.length cc2).ownBlock = some j → u11.ownBlock ≠ some j) := Lib.hid (fun j hj he => Nat.lt_asymm (HFR.out j hj) (HVB.out j he))
        have HBL : Hid (b.length ≤ 400) := Lib.hid (by omega)
        have hSL : St.length ≤ 200 := by have := HL.out.2; omega
        go_wp2_with (first
          | (at_builtin; refine append_msgsT rfl _ _ rfl (w1.heap.size + 1) u10 St rfl (HR2.out.below (below_box _)).st _ [m] rfl (one_msgs m _ (by first | rfl | simp)) (by simp only [List.length_cons, List.length_nil]; omega) ((HR2.out.below (below_box _)).size) ?_; intro v3 w3 hown3 ht3; have HR3 := Lib.hid ((HR2.out.below (below_box (.cells (encM m) 40))).setS hown3 ht3); have HN3 := Lib.hid (spans_turned (HP2.out.below (below_box (.cells (encM m) 40))) ht3.1 (fun j hj he => Nat.lt_asymm (HFR.out j hj) (HVS.out j he))); clear hown3 ht3)
          | (go_at_call 76; (refine (with_w (w1.heap.size + 1) u11 _ b N _ HR3.out.bl HO.out HN3.out HNF.out HAP.out HR3.out.size HBL.out (Nat.le_trans HNL.out (by decide))).mono ?_); rintro e w4 ⟨v4, rfl, ho4, ht4⟩; have HR4 := Lib.hid (HR3.out.setB ho4 ht4); clear ho4 ht4))
        have HOW := Lib.hid (withL_ord N b HO.out HNF.out)
        go_roundw
        case rel => exact hSTAY.out _ _ _ _ _ _ (by go_num) HNO.out HR4.out HOW.out.1 (fun key => by rw [HOW.out.2.1, inB_append, inB_append, HKY.out, HBK.out]) (by have := HOW.out.2.2; have := HNL.out; omega)
        case measure => simp [intOf]; omega
      · obtain rfl := HPT.out hPne
        clear hPne
        have hP1 := HP1.out
        simp only [List.length_cons, List.length_nil, Nat.zero_add] at HP1 hlc1
        have HCT := Lib.hid (containsB_w (.slice a2 N.length cc2) N u11 b w2 HP2.out ⟨IsSpans.owned HR2.out.bl, HO.out, by omega⟩)
        rw [← HHIT.out] at HCT
        have HG0 := HGO.out
        generalize hitB b N = hit at *
        clear hP1 HHIT
        have HAP : Hid (∀ j, (Value.slice a2 N.length cc2).ownBlock = some j → u11.ownBlock ≠ some j) := Lib.hid (fun j hj he => Nat.lt_asymm (HFR.out j hj) (HVB.out j he))
        have HBL : Hid (b.length ≤ 400) := Lib.hid (by omega)
        have hSL : St.length ≤ 200 := by have := HL.out.2; omega
        cases hit with
        | true =>
          have HNO : Hid (goesB s B m = false) := Lib.hid (by rw [HG0]; rfl)
          clear HG0 HGO hGO HPT
          go_wp2_with (first
            | (go_at_call 57; (refine (HCT.out).mono ?_); rintro e w5 ⟨rfl, hg5⟩; have HG5 : Hid (Below w2.heap.size w2 w5) := Lib.hid (hg5.below (Nat.le_refl _)); have HR5 := Lib.hid (HR2.out.below HG5.out); have HP25 := Lib.hid (HP2.out.below HG5.out); have HP15 := Lib.hid (HP1.out.below HG5.out); have HBX5 := Lib.hid (HBX2.out.below HG5.out HBX2.out.lt); have hsz5 : wr.heap.size < w5.heap.size := Nat.lt_of_lt_of_le hsz2 HG5.out.size; have f0 : w5.cell? ⟨wr.heap.size, 0, none⟩ = some (.int .i64 m.kind) := (HBX5.out).c0 0 _ rfl; have f1 : w5.cell? ⟨wr.heap.size, 1, none⟩ = some (.string (Str m.key)) := (HBX5.out).c0 1 _ rfl; have f2 : w5.cell? ⟨wr.heap.size, 2, none⟩ = some (.string (Str m.val)) := (HBX5.out).c0 2 _ rfl; have f3 : w5.cell? ⟨wr.heap.size, 3, none⟩ = some (.string (Str m.lo)) := (HBX5.out).c0 3 _ rfl; have f4 : w5.cell? ⟨wr.heap.size, 4, none⟩ = some (.string (Str m.hi)) := (HBX5.out).c0 4 _ rfl; have f5 : w5.cell? ⟨wr.heap.size, 5, none⟩ = some (.string (Str m.src)) := (HBX5.out).c0 5 _ rfl; have f6 : w5.cell? ⟨wr.heap.size, 6, none⟩ = some (.string (Str m.dst)) := (HBX5.out).c0 6 _ rfl; have f7 : w5.cell? ⟨wr.heap.size, 7, none⟩ = some (.int .i64 m.n) := (HBX5.out).c0 7 _ rfl; have kf0 : w5.cell? ⟨w1.heap.size, 0, none⟩ = some (.string (Str s.1)) := HR5.out.kid.c0 0 _ rfl; have kf1 : w5.cell? ⟨w1.heap.size, 1, none⟩ = some (.string (Str s.2)) := HR5.out.kid.c0 1 _ rfl; clear hg5)
            | (at_builtin; refine append_msgsT rfl _ _ rfl (w1.heap.size + 1) u10 St rfl (HR5.out.below (below_box _)).st _ [m] rfl (one_msgs m _ (by first | rfl | simp)) (by simp only [List.length_cons, List.length_nil]; omega) ((HR5.out.below (below_box _)).size) ?_; intro v3 w3 hown3 ht3; have HR3 := Lib.hid ((HR5.out.below (below_box (.cells (encM m) 40))).setS hown3 ht3); have HN3 := Lib.hid (spans_turned (HP25.out.below (below_box (.cells (encM m) 40))) ht3.1 (fun j hj he => Nat.lt_asymm (HFR.out j hj) (HVS.out j he))); clear hown3 ht3)
            | (go_at_call 76; (refine (with_w (w1.heap.size + 1) u11 _ b N _ HR3.out.bl HO.out HN3.out HNF.out HAP.out HR3.out.size HBL.out (Nat.le_trans HNL.out (by decide))).mono ?_); rintro e w4 ⟨v4, rfl, ho4, ht4⟩; have HR4 := Lib.hid (HR3.out.setB ho4 ht4); clear ho4 ht4))
          have HOW := Lib.hid (withL_ord N b HO.out HNF.out)
          go_roundw
          case rel => exact hSTAY.out _ _ _ _ _ _ (by go_num) HNO.out HR4.out HOW.out.1 (fun key => by rw [HOW.out.2.1, inB_append, inB_append, HKY.out, HBK.out]) (by have := HOW.out.2.2; have := HNL.out; omega)
          case measure => simp [intOf]; omega
        | false =>
          have HNO : Hid (goesB s B m = true) := Lib.hid (by rw [HG0]; rfl)
          clear HG0 HGO hSTAY HPT
          have hGL : G.length ≤ 100 := by have := HL.out.1; omega
          go_wp2_with (first
            | (go_at_call 57; (refine (HCT.out).mono ?_); rintro e w5 ⟨rfl, hg5⟩; have HG5 : Hid (Below w2.heap.size w2 w5) := Lib.hid (hg5.below (Nat.le_refl _)); have HR5 := Lib.hid (HR2.out.below HG5.out); have HP25 := Lib.hid (HP2.out.below HG5.out); have HP15 := Lib.hid (HP1.out.below HG5.out); have HBX5 := Lib.hid (HBX2.out.below HG5.out HBX2.out.lt); have hsz5 : wr.heap.size < w5.heap.size := Nat.lt_of_lt_of_le hsz2 HG5.out.size; have f0 : w5.cell? ⟨wr.heap.size, 0, none⟩ = some (.int .i64 m.kind) := (HBX5.out).c0 0 _ rfl; have f1 : w5.cell? ⟨wr.heap.size, 1, none⟩ = some (.string (Str m.key)) := (HBX5.out).c0 1 _ rfl; have f2 : w5.cell? ⟨wr.heap.size, 2, none⟩ = some (.string (Str m.val)) := (HBX5.out).c0 2 _ rfl; have f3 : w5.cell? ⟨wr.heap.size, 3, none⟩ = some (.string (Str m.lo)) := (HBX5.out).c0 3 _ rfl; have f4 : w5.cell? ⟨wr.heap.size, 4, none⟩ = some (.string (Str m.hi)) := (HBX5.out).c0 4 _ rfl; have f5 : w5.cell? ⟨wr.heap.size, 5, none⟩ = some (.string (Str m.src)) := (HBX5.out).c0 5 _ rfl; have f6 : w5.cell? ⟨wr.heap.size, 6, none⟩ = some (.string (Str m.dst)) := (HBX5.out).c0 6 _ rfl; have f7 : w5.cell? ⟨wr.heap.size, 7, none⟩ = some (.int .i64 m.n) := (HBX5.out).c0 7 _ rfl; have kf0 : w5.cell? ⟨w1.heap.size, 0, none⟩ = some (.string (Str s.1)) := HR5.out.kid.c0 0 _ rfl; have kf1 : w5.cell? ⟨w1.heap.size, 1, none⟩ = some (.string (Str s.2)) := HR5.out.kid.c0 1 _ rfl; clear hg5)
            | (at_builtin; refine append_msgsT rfl _ _ rfl (w1.heap.size + 1) u9 G rfl HR5.out.g (.slice a1 1 cc1) [onlyS m s] rfl HP15.out (by simp only [List.length_cons, List.length_nil]; omega) HR5.out.size ?_; intro v3 w3 hown3 ht3; have HR3 := Lib.hid (HR5.out.setG hown3 ht3); have HBX3 := Lib.hid (blk_kept HBX5.out ht3.1 (fun e' => Nat.lt_irrefl _ (HVG.out _ e'.symm))); have g0 : w3.cell? ⟨wr.heap.size, 0, none⟩ = some (.int .i64 m.kind) := (HBX3.out).c0 0 _ rfl; have g1 : w3.cell? ⟨wr.heap.size, 1, none⟩ = some (.string (Str m.key)) := (HBX3.out).c0 1 _ rfl; have g2 : w3.cell? ⟨wr.heap.size, 2, none⟩ = some (.string (Str m.val)) := (HBX3.out).c0 2 _ rfl; have g3 : w3.cell? ⟨wr.heap.size, 3, none⟩ = some (.string (Str m.lo)) := (HBX3.out).c0 3 _ rfl; have g4 : w3.cell? ⟨wr.heap.size, 4, none⟩ = some (.string (Str m.hi)) := (HBX3.out).c0 4 _ rfl; have g5 : w3.cell? ⟨wr.heap.size, 5, none⟩ = some (.string (Str m.src)) := (HBX3.out).c0 5 _ rfl; have g6 : w3.cell? ⟨wr.heap.size, 6, none⟩ = some (.string (Str m.dst)) := (HBX3.out).c0 6 _ rfl; have g7 : w3.cell? ⟨wr.heap.size, 7, none⟩ = some (.int .i64 m.n) := (HBX3.out).c0 7 _ rfl; have kg0 : w3.cell? ⟨w1.heap.size, 0, none⟩ = some (.string (Str s.1)) := HR3.out.kid.c0 0 _ rfl; have kg1 : w3.cell? ⟨w1.heap.size, 1, none⟩ = some (.string (Str s.2)) := HR3.out.kid.c0 1 _ rfl; clear hown3 ht3)
            | (go_at_call 77; (refine (HRW.out _).mono ?_); rintro e w4 ⟨v4, rfl, hp4, hb4⟩; have HR4 := Lib.hid (HR3.out.below hb4); have HP4 := Lib.hid hp4; clear hp4 hb4)
            | (at_builtin; refine append_msgsT rfl _ _ rfl (w1.heap.size + 1) u10 St rfl HR4.out.st _ (restR m s) rfl HP4.out (by omega) HR4.out.size ?_; intro v6 w6 hown6 ht6; have HR6 := Lib.hid (HR4.out.setS hown6 ht6); clear hown6 ht6))
          go_roundw
          case rel => exact hGO.out _ _ _ _ _ _ (by go_num) HNO.out HR6.out HO.out HKY.out hbl
          case measure => simp [intOf]; omega
    · obtain rfl : k = l.length := by omega
      rw [List.take_length] at HR
      go_wp2
      go_ret2
      exact ⟨_, _, rfl, owns_lower HR.out.g (Nat.le_succ_of_le HR.out.lo), owns_lower HR.out.st (Nat.le_succ_of_le HR.out.lo), HR.out.bel⟩

end Go.Proofs.YtjncehkldhkobaaGreat
