/-
  Walks: the reference's Live, Reduce and Merge.
-/
import Derived.Test.YtpppkjcbheooeaaGreatFYI
import Derived.Test.YtpppkjcbheooeaaGreatGAB
namespace Go.Proofs.YtpppkjcbheooeaaGreat
open Go.RowKit Go.Sort
set_option linter.unusedVariables false

/-- The state when k messages have come, the last first. -/
def rvL (l : List Ms) (d : List Sp) (k : Nat) : List Ms × List Sp := (l.reverse.take k).foldl stepL ([], normS d)
theorem rvL_zero (l : List Ms) (d : List Sp) : rvL l d 0 = ([], normS d) := rfl
theorem rvL_succ (l : List Ms) (d : List Sp) (k i : Nat) (hi : i < l.length) (hk : k + i + 1 = l.length) : rvL l d (k + 1) = stepL (rvL l d k) l[i] := by
  unfold rvL
  have hlt : k < l.reverse.length := by rw [List.length_reverse]; omega
  rw [List.take_add_one, List.getElem?_eq_getElem hlt, List.foldl_append]
  have e : l.reverse[k] = l[i] := by rw [List.getElem_reverse]; congr 1; omega
  rw [e]; rfl
theorem rvL_all (l : List Ms) (d : List Sp) : rvL l d l.length = ((liveS l d).1.reverse, (liveS l d).2) := by
  unfold rvL liveS
  rw [List.take_of_length_le (by simp), foldB_left]
  rfl
theorem rvL_len (l : List Ms) (d : List Sp) (k : Nat) : (rvL l d k).1.length ≤ k ∧ (rvL l d k).2.length ≤ d.length + 4 * k := by
  have h : ∀ (r : List Ms) (acc : List Ms) (e : List Sp), (r.foldl stepL (acc, e)).1.length ≤ acc.length + r.length ∧ (r.foldl stepL (acc, e)).2.length ≤ e.length + 4 * r.length := by
    intro r
    induction r with
    | nil => exact fun _ _ => ⟨Nat.le_refl _, Nat.le_refl _⟩
    | cons m r ih =>
      intro acc e
      rw [List.foldl_cons, stepL]
      split
      · have h1 := ih (acc ++ [m]) (nextD e m)
        have h2 := nextD_len e m
        simp only [List.length_append, List.length_cons, List.length_nil] at *
        omega
      · have h1 := ih acc e
        simp only [List.length_cons] at *
        omega
  have h1 := h (l.reverse.take k) [] (normS d)
  have h2 := norm_length d
  have h3 : (l.reverse.take k).length ≤ k := List.length_take_le _ _
  unfold rvL
  simp only [List.length_nil] at h1
  omega
theorem one_msg {n : Nat} (W : World) (m : Ms) (T : TypeId) (B : Nat) (hT : T = 25) (hn : n = W.heap.size) (hB : B ≤ W.heap.size) : OwnM (W.alloc (.cells (encM m) T)) B (.slice (some ⟨n, 0, none⟩) 1 1) [m] := by
  subst hT hn
  exact ⟨rfl, .inr ⟨W.heap.size, 1, encM m, rfl, hB, Blk.new _ _ _, Nat.le_refl _, by unfold maxLen; omega, rfl, rfl⟩⟩
theorem own_emptySp (W : World) (B : Nat) (hB : B ≤ W.heap.size) : (W.alloc (.cells #[] 23)).ownsRow B 23 2 (.slice (some ⟨W.heap.size, 0, none⟩) 0 0) ([] : List Sp).length (([] : List Sp).flatMap encS) :=
  ⟨rfl, .inr ⟨W.heap.size, 0, #[], rfl, hB, Blk.new _ _ _, Nat.le_refl _, by unfold maxLen; omega, rfl, rfl⟩⟩

/-- A list does not lie in a block that holds two slices. -/
theorem msgs_off {w : World} {B : Nat} {T : TypeId} {a a' : Option Addr} {n n' c c' : Nat} {v : Value} {l : List Ms} (hB : Blk w B T #[.slice a n c, .slice a' n' c']) (h : IsMsgs w v l) (i : Nat) (u : Value) : IsMsgs (w.setCell ⟨B, i, none⟩ u) v l := by
  obtain ⟨p, cap, rfl, h1, h2, h3⟩ := h
  refine ⟨p, cap, rfl, h1, h2, fun hne => ?_⟩
  obtain ⟨b, off, rfl, hlt, hc⟩ := h3 hne
  have hb : b ≠ B := by
    rintro rfl
    have c0 := (hc 0 (List.length_pos_iff.2 hne)).1
    rw [hB.cell] at c0
    match off, c0 with
    | 0, c0 => simp at c0
    | 1, c0 => simp at c0
    | k + 2, c0 => simp at c0
  have e : (w.setCell ⟨B, i, none⟩ u).heap[b]? = w.heap[b]? := Below.heap_setCell _ _ _ b (fun h => hb h)
  refine ⟨b, off, rfl, by simpa [World.setCell] using hlt, fun j hj => ?_⟩
  obtain ⟨d0, d1, d2, d3, d4, d5, d6, d7⟩ := hc j hj
  exact ⟨(World.cell?_of_block (a := ⟨b, _, none⟩) e).trans d0, (World.cell?_of_block (a := ⟨b, _, none⟩) e).trans d1, (World.cell?_of_block (a := ⟨b, _, none⟩) e).trans d2, (World.cell?_of_block (a := ⟨b, _, none⟩) e).trans d3,
    (World.cell?_of_block (a := ⟨b, _, none⟩) e).trans d4, (World.cell?_of_block (a := ⟨b, _, none⟩) e).trans d5, (World.cell?_of_block (a := ⟨b, _, none⟩) e).trans d6, (World.cell?_of_block (a := ⟨b, _, none⟩) e).trans d7⟩
theorem spans_off {w : World} {B : Nat} {T : TypeId} {a a' : Option Addr} {n n' c c' : Nat} {v : Value} {l : List Sp} (hB : Blk w B T #[.slice a n c, .slice a' n' c']) (h : IsSpans w v l) (i : Nat) (u : Value) : IsSpans (w.setCell ⟨B, i, none⟩ u) v l := by
  obtain ⟨p, cap, rfl, h1, h2, h3⟩ := h
  refine ⟨p, cap, rfl, h1, h2, fun hne => ?_⟩
  obtain ⟨b, off, rfl, hlt, hc⟩ := h3 hne
  have hb : b ≠ B := by
    rintro rfl
    have c0 := (hc 0 (List.length_pos_iff.2 hne)).1
    rw [hB.cell] at c0
    match off, c0 with
    | 0, c0 => simp at c0
    | 1, c0 => simp at c0
    | k + 2, c0 => simp at c0
  have e : (w.setCell ⟨B, i, none⟩ u).heap[b]? = w.heap[b]? := Below.heap_setCell _ _ _ b (fun h => hb h)
  refine ⟨b, off, rfl, by simpa [World.setCell] using hlt, fun j hj => ?_⟩
  obtain ⟨d0, d1⟩ := hc j hj
  exact ⟨(World.cell?_of_block (a := ⟨b, _, none⟩) e).trans d0, (World.cell?_of_block (a := ⟨b, _, none⟩) e).trans d1⟩

set_option maxRecDepth 100000 in
set_option maxHeartbeats 4000000 in
theorem rlive_w (v vd : Value) (l : List Ms) (d : List Sp) (w : World) (hm : IsMsgs w v l) (hd : IsSpans w vd d) (ho : ∀ m ∈ l, Ok m ∧ OneToSix m) (hl : d.length + 4 * l.length ≤ 100) :
    Calls Tryz.prog 24 #[v, vd] w fun e w' => ∃ v1 v2, e = .returned (.agg #[v1, v2]) ∧ IsMsgs w' v1 (liveS l d).1 ∧ IsSpans w' v2 (liveS l d).2 ∧ Below w.heap.size w w' := by
  have HO := Lib.hid ho
  have HNO := Lib.hid (fun wx (h : Below w.heap.size w wx) => rnorm_w vd d wx (hd.below h) (by omega))
  have hall := rvL_all l d
  have Hall := Lib.hid hall
  obtain ⟨g0, o0, cap0, q0, rfl, hlc, hk0, hq0, hc0⟩ := hm.form
  unfold maxLen at hk0
  have HC0 := Lib.hid hc0
  have HQ0 := Lib.hid hq0
  clear hm hd ho hall hc0 hq0
  go_enter Tryz.func24, Tryz.ntmps24
  go_wp2_with fail
  refine (HNO.out _ (((Below.refl w.heap.size w).alloc (Nat.le_refl _) _).alloc (by simp) _)).mono ?_
  rintro e1 w1 ⟨vn, rfl, ho1, hb1⟩
  have HB1 : Hid (Below w.heap.size w w1) := Lib.hid ((((Below.refl w.heap.size w).alloc (Nat.le_refl _) _).alloc (by simp) _).trans (hb1.mono (by simp; omega)))
  have HN1 := Lib.hid (IsSpans.owned ho1)
  have HF1 : Hid (Blk w1 w.heap.size 50 #[.slice none 0 0, .slice none 0 0]) := Lib.hid (((Blk.new w 50 #[.slice none 0 0, .slice none 0 0]).alloc _).below hb1 (by simp; omega))
  have HM1 : Hid (IsMsgs w1 (.slice (some ⟨w.heap.size + 1, 0, none⟩) 0 0) ([] : List Ms)) := Lib.hid ⟨_, 0, rfl, Nat.le_refl _, by unfold maxLen; omega, fun h => absurd rfl h⟩
  clear ho1 hb1 HNO
  go_wp2
  go_loopw [5, 6, 7] (fun o nw i wr => ∃ k : Nat, k ≤ l.length ∧ i = .int .i64 ((l.length : Int) - 1 - k) ∧ (∃ p c, o = .slice p (rvL l d k).1.length c ∧ IsMsgs wr o (rvL l d k).1.reverse) ∧ (∃ p c, nw = .slice p (rvL l d k).2.length c ∧ IsSpans wr nw (rvL l d k).2) ∧ Below w1.heap.size w1 wr) (fun _ _ i _ => (intOf i + 1).toNat)
  case atStart =>
    refine ⟨0, Nat.zero_le _, by simp, ⟨_, _, rfl, HM1.out⟩, ?_, Below.refl _ _⟩
    obtain ⟨pn, cn, e, -⟩ := id HN1.out
    exact ⟨pn, cn, e, HN1.out⟩
  case round =>
    obtain ⟨k, hk, rfl, ⟨po, co, rfl, hmo⟩, ⟨pn, cn, rfl, hno⟩, hbel⟩ := hrel
    clear HM1 HN1
    have hln := rvL_len l d k
    have hb1s := HB1.out.size
    by_cases hlt : k < l.length
    · obtain ⟨i, hi, hil⟩ : ∃ i : Nat, (l.length : Int) - 1 - k = i ∧ i < l.length := ⟨l.length - 1 - k, by omega, by omega⟩
      have HSU := Lib.hid (rvL_succ l d k i hil (by omega))
      obtain ⟨rfl, hma⟩ := HC0.out i hil
      have hq := (HQ0.out (by rintro rfl; simp at hil)).2
      obtain ⟨c0, c1, c2, c3, c4, c5, c6, c7⟩ := (hma.below (HB1.out.trans (hbel.mono hb1s)) hq)
      obtain ⟨hok, hkd⟩ := HO.out l[i] (List.getElem_mem hil)
      have hilz : (i : Int) < (l.length : Int) := by omega
      have hi0 : (0 : Int) ≤ (i : Int) := by omega
      have hklen : (rvL l d k).2.length ≤ 100 := by omega
      have hkl1 : (rvL l d k).1.length ≤ 100 := by omega
      clear hma hln
      generalize l[i] = m at *
      unfold stepL at HSU
      generalize rvL l d k = st at *
      obtain ⟨acc, dd⟩ := st
      dsimp only at HSU hmo hno hklen hkl1 ⊢
      have HMO := Lib.hid hmo
      have HNW := Lib.hid hno
      have HBL := Lib.hid hbel
      clear hmo hno hbel
      have hW := Lib.hid (fun wx => rwrites_w m wx hok.1 hkd)
      have hKi := Lib.hid (fun wx => rkills_w m wx hok.1 hkd)
      have hRe := Lib.hid (fun wx => rreads_w m wx hok.1 hkd)
      have hwl : (writesS m).length ≤ 2 := by
        unfold writesS; repeat' split
        all_goals simp
      obtain ⟨hkl, hrl⟩ := kills_len m
      clear hok hkd
      rw [hi]
      go_wp2_with fail
      refine (hW.out _).mono ?_
      rintro e2 w2 ⟨v2, rfl, hsp2, hg2⟩
      have hb2 : Below wr.heap.size wr w2 := (below_box _).trans ((hg2.below (Nat.le_refl _)).mono (by simp))
      have HX2 : Hid (Blk w2 wr.heap.size 25 (encM m)) := Lib.hid ((Blk.new wr 25 (encM m)).below (hg2.below (Nat.le_refl _)) (by simp))
      have HB2 := Lib.hid hb2
      have HSP2 := Lib.hid hsp2
      clear hsp2 hg2 hb2 c0 c1 c2 c3 c4 c5 c6 c7
      go_wp2_with fail
      refine (rminus_w v2 _ (writesS m) dd w2 HSP2.out (HNW.out.below HB2.out) (by omega) (by omega)).mono ?_
      rintro e3 w3 ⟨v3, rfl, ho3, hb3⟩
      obtain ⟨p3, cc3, rfl, hk3, hm3, -⟩ := own_form ho3
      have HB3 : Hid (Below wr.heap.size wr w3) := Lib.hid (HB2.out.trans (hb3.mono HB2.out.size))
      have HX3 := Lib.hid (HX2.out.below hb3 HX2.out.lt)
      clear ho3 hb3 HX2 HB2 HSP2
      have hemp : ((minusS (writesS m) dd).length == 0) = !liveB dd (writesS m) := by
        unfold liveB
        cases minusS (writesS m) dd <;> simp
      generalize minusS (writesS m) dd = lf at *
      cases hlv : liveB dd (writesS m)
      · rw [hlv] at HSU hemp
        have hl0 : lf.length = 0 := by simpa using hemp
        have hst : rvL l d (k + 1) = (acc, dd) := by have := HSU.out; simpa using this
        have Hst := Lib.hid hst
        clear hemp hst HSU
        rw [hl0]
        go_wp2
        go_roundw
        case rel =>
          refine ⟨k + 1, by omega, by rw [show (l.length : Int) - 1 - ((k + 1 : Nat) : Int) = (i : Int) - 1 by omega], ?_, ?_, HBL.out.trans (HB3.out.mono HBL.out.size)⟩
          · rw [Hst.out]; exact ⟨po, co, rfl, HMO.out.below HB3.out⟩
          · rw [Hst.out]; exact ⟨pn, cn, rfl, HNW.out.below HB3.out⟩
        case measure => simp [intOf]
      · rw [hlv] at HSU hemp
        have hl1 : ((lf.length : Int) == 0) = false := by
          have h1 : lf.length ≠ 0 := by simpa using hemp
          rw [beq_eq_false_iff_ne]; omega
        have hst : rvL l d (k + 1) = (acc ++ [m], nextD dd m) := by have := HSU.out; simpa using this
        have Hst := Lib.hid hst
        clear hemp hst HSU
        generalize lf.length = nlf at *
        have m0 : w3.cell? ⟨wr.heap.size, 0, none⟩ = some (.int .i64 m.kind) := HX3.out.c0 0 _ rfl
        have m1 : w3.cell? ⟨wr.heap.size, 1, none⟩ = some (.string (Str m.key)) := HX3.out.c0 1 _ rfl
        have m2 : w3.cell? ⟨wr.heap.size, 2, none⟩ = some (.string (Str m.val)) := HX3.out.c0 2 _ rfl
        have m3 : w3.cell? ⟨wr.heap.size, 3, none⟩ = some (.string (Str m.lo)) := HX3.out.c0 3 _ rfl
        have m4 : w3.cell? ⟨wr.heap.size, 4, none⟩ = some (.string (Str m.hi)) := HX3.out.c0 4 _ rfl
        have m5 : w3.cell? ⟨wr.heap.size, 5, none⟩ = some (.string (Str m.src)) := HX3.out.c0 5 _ rfl
        have m6 : w3.cell? ⟨wr.heap.size, 6, none⟩ = some (.string (Str m.dst)) := HX3.out.c0 6 _ rfl
        have m7 : w3.cell? ⟨wr.heap.size, 7, none⟩ = some (.int .i64 m.n) := HX3.out.c0 7 _ rfl
        have hrev : acc.reverse.length = acc.length := List.length_reverse ..
        go_upto_region 11 with (at_builtin; go_must (refine append_msgs rfl _ _ rfl w3.heap.size (.slice (some ⟨w3.heap.size, 0, none⟩) 1 1) [m] rfl ?a1 (.slice po acc.length co) acc.reverse rfl ?a2 ?a3 ?a4 ?_; (case a1 => exact one_msg w3 m 25 w3.heap.size rfl rfl (Nat.le_refl _)); (case a2 => exact HMO.out.below (HB3.out.trans ((below_box _).mono HB3.out.size))); (case a3 => simp; omega); (case a4 => simp); intro v4 w4 hown4 hbel4))
        obtain ⟨p4, cc4, hv4, h41, h42⟩ := own_formM hown4
        rw [show ([m] ++ acc.reverse).length = acc.length + 1 from by simp] at hv4
        subst hv4
        have hb34 : Below w3.heap.size w3 w4 := (below_box _).trans (hbel4.mono (by simp))
        have HO4 := Lib.hid hown4.msgs
        have HB4 : Hid (Below wr.heap.size wr w4) := Lib.hid (HB3.out.trans (hb34.mono HB3.out.size))
        have HX4 := Lib.hid (HX3.out.below hb34 HX3.out.lt)
        have HN4 := Lib.hid (HNW.out.below HB4.out)
        clear hown4 hbel4 hb34 HX3 HB3 m0 m1 m2 m3 m4 m5 m6 m7
        have hE1 := Lib.hid (own_emptySp w4 w4.heap.size (Nat.le_refl _))
        go_upto_region 12 with (at_builtin; go_must (refine append_spans rfl _ _ rfl w4.heap.size (.slice (some ⟨w4.heap.size, 0, none⟩) 0 0) [] rfl ?b1 (.slice pn dd.length cn) dd rfl ?b2 ?b3 ?b4 ?_; (case b1 => exact hE1.out); (case b2 => exact HN4.out.below (below_box _)); (case b3 => simp; omega); (case b4 => simp); intro v5 w5 hown5 hbel5))
        rw [List.nil_append] at hown5
        obtain ⟨p5, cc5, rfl, h51, h52, -⟩ := own_form hown5
        have hb45 : Below w4.heap.size w4 w5 := (below_box _).trans (hbel5.mono (by simp))
        have HX5 := Lib.hid (HX4.out.below hb45 HX4.out.lt)
        have HB45 := Lib.hid hb45
        have HW5 := Lib.hid hown5
        have hs45 := hb45.size
        clear hown5 hbel5 hb45 HN4 hE1
        have m0 : w5.cell? ⟨wr.heap.size, 0, none⟩ = some (.int .i64 m.kind) := HX5.out.c0 0 _ rfl
        have m1 : w5.cell? ⟨wr.heap.size, 1, none⟩ = some (.string (Str m.key)) := HX5.out.c0 1 _ rfl
        have m2 : w5.cell? ⟨wr.heap.size, 2, none⟩ = some (.string (Str m.val)) := HX5.out.c0 2 _ rfl
        have m3 : w5.cell? ⟨wr.heap.size, 3, none⟩ = some (.string (Str m.lo)) := HX5.out.c0 3 _ rfl
        have m4 : w5.cell? ⟨wr.heap.size, 4, none⟩ = some (.string (Str m.hi)) := HX5.out.c0 4 _ rfl
        have m5 : w5.cell? ⟨wr.heap.size, 5, none⟩ = some (.string (Str m.src)) := HX5.out.c0 5 _ rfl
        have m6 : w5.cell? ⟨wr.heap.size, 6, none⟩ = some (.string (Str m.dst)) := HX5.out.c0 6 _ rfl
        have m7 : w5.cell? ⟨wr.heap.size, 7, none⟩ = some (.int .i64 m.n) := HX5.out.c0 7 _ rfl
        go_wp2_with fail
        refine (hKi.out _).mono ?_
        rintro e6 w6 ⟨v6, rfl, hsp6, hg6⟩
        have hb6 := hg6.below (B := w5.heap.size) (Nat.le_refl _)
        have HB46 := Lib.hid (HB45.out.trans (hb6.mono HB45.out.size))
        have HW6 := Lib.hid (owns_below HW5.out hb6)
        have HS6 := Lib.hid hsp6
        have hs56 := hb6.size
        clear hsp6 hg6 hb6 HX5 HW5 HB45 m0 m1 m2 m3 m4 m5 m6 m7
        go_upto_region 13 with (at_builtin; go_must (refine append_spans rfl _ _ rfl w4.heap.size (.slice p5 dd.length cc5) dd rfl ?d1 v6 (killsS m) rfl ?d2 ?d3 ?d4 ?_; (case d1 => exact HW6.out); (case d2 => exact HS6.out); (case d3 => omega); (case d4 => omega); intro v7 w7 hown7 hbel7))
        obtain ⟨p7, cc7, hv7, h71, h72, -⟩ := own_form hown7
        subst hv7
        have hb47 := HB46.out.trans hbel7
        have HX7 := Lib.hid (HX4.out.below hb47 HX4.out.lt)
        have HB47 := Lib.hid hb47
        have HW7 := Lib.hid (IsSpans.owned hown7)
        clear hown7 hbel7 hb47 HW6 HS6 HB46
        have m0 : w7.cell? ⟨wr.heap.size, 0, none⟩ = some (.int .i64 m.kind) := HX7.out.c0 0 _ rfl
        have m1 : w7.cell? ⟨wr.heap.size, 1, none⟩ = some (.string (Str m.key)) := HX7.out.c0 1 _ rfl
        have m2 : w7.cell? ⟨wr.heap.size, 2, none⟩ = some (.string (Str m.val)) := HX7.out.c0 2 _ rfl
        have m3 : w7.cell? ⟨wr.heap.size, 3, none⟩ = some (.string (Str m.lo)) := HX7.out.c0 3 _ rfl
        have m4 : w7.cell? ⟨wr.heap.size, 4, none⟩ = some (.string (Str m.hi)) := HX7.out.c0 4 _ rfl
        have m5 : w7.cell? ⟨wr.heap.size, 5, none⟩ = some (.string (Str m.src)) := HX7.out.c0 5 _ rfl
        have m6 : w7.cell? ⟨wr.heap.size, 6, none⟩ = some (.string (Str m.dst)) := HX7.out.c0 6 _ rfl
        have m7 : w7.cell? ⟨wr.heap.size, 7, none⟩ = some (.int .i64 m.n) := HX7.out.c0 7 _ rfl
        go_wp2_with fail
        refine (hRe.out _).mono ?_
        rintro e8 w8 ⟨v8, rfl, hsp8, hg8⟩
        have hb8 := hg8.below (B := w7.heap.size) (Nat.le_refl _)
        have HB48 := Lib.hid (HB47.out.trans (hb8.mono HB47.out.size))
        have hm9 := rminus_w _ v8 (dd ++ killsS m) (readsS m) w8 (HW7.out.below hb8) hsp8 (by simp; omega) (by omega)
        rw [List.length_append] at hm9
        have HM9 := Lib.hid hm9
        clear hm9
        clear hsp8 hg8 hb8 HW7 HB47 HX7 m0 m1 m2 m3 m4 m5 m6 m7
        go_wp2_with fail
        refine HM9.out.mono ?_
        rintro e9 w9 ⟨v9, rfl, ho9, hb9⟩
        obtain ⟨p9, cc9, rfl, h91, h92, -⟩ := own_form ho9
        have HN9 := Lib.hid (IsSpans.owned ho9)
        have HB49 := Lib.hid (HB48.out.trans (hb9.mono HB48.out.size))
        clear ho9 hb9 HM9 HB48
        go_wp2
        go_roundw
        case rel =>
          refine ⟨k + 1, by omega, by rw [show (l.length : Int) - 1 - ((k + 1 : Nat) : Int) = (i : Int) - 1 by omega], ?_, ?_, HBL.out.trans ((HB4.out.mono HBL.out.size).trans (HB49.out.mono (Nat.le_trans HBL.out.size HB4.out.size)))⟩
          · rw [Hst.out]
            refine ⟨p4, cc4, by rw [List.length_append]; rfl, ?_⟩
            rw [List.reverse_append]
            exact HO4.out.below HB49.out
          · rw [Hst.out]; exact ⟨p9, cc9, rfl, HN9.out⟩
        case measure => simp [intOf]
    · obtain rfl : k = l.length := by omega
      have hfl : (rvL l d l.length).1.length = (liveS l d).1.length := by rw [Hall.out]; simp
      have hfl2 : (rvL l d l.length).2.length = (liveS l d).2.length := by rw [Hall.out]
      rw [hfl] at hmo ⊢
      rw [hfl2] at hno ⊢
      rw [Hall.out] at hmo hno
      rw [List.reverse_reverse] at hmo
      obtain ⟨L1, hL1⟩ : ∃ L1, L1 = (liveS l d).1 := ⟨_, rfl⟩
      obtain ⟨D1, hD1⟩ : ∃ D1, D1 = (liveS l d).2 := ⟨_, rfl⟩
      have hLl : (liveS l d).1.length = L1.length := by rw [hL1]
      have hDl : (liveS l d).2.length = D1.length := by rw [hD1]
      rw [hLl] at hmo ⊢
      rw [hDl] at hno ⊢
      rw [← hL1] at hmo
      rw [← hD1] at hno
      have HL1 := Lib.hid hL1
      have HD1 := Lib.hid hD1
      clear hLl hDl hL1 hD1
      have HMO := Lib.hid hmo
      have HNO := Lib.hid hno
      have HBZ : Hid (Below w.heap.size w wr) := Lib.hid (HB1.out.trans (hbel.mono hb1s))
      have HF := Lib.hid ((show Blk w1 w.heap.size 50 #[.slice none 0 0, .slice none 0 0] from HF1.out).below hbel HF1.out.lt)
      have e : (l.length : Int) - 1 - (l.length : Int) = -1 := by omega
      clear hmo hno hbel hfl hfl2 hln Hall
      rw [e]
      have f0 := HF.out.c0 0 _ rfl
      have f1 := HF.out.c0 1 _ rfl
      have g0 := HF.out.free 0
      have g1 := HF.out.free 1
      go_wp2
      have HX1 := HF.out.setCell 0 (.slice po L1.length co)
      have HX2 := HX1.setCell 1 (.slice pn D1.length cn)
      have r0 : ((wr.setCell ⟨w.heap.size, 0, none⟩ (.slice po L1.length co)).setCell ⟨w.heap.size, 1, none⟩ (.slice pn D1.length cn)).cell? ⟨w.heap.size, 0, none⟩ = some (.slice po L1.length co) := HX2.c0 0 _ rfl
      have r1 : ((wr.setCell ⟨w.heap.size, 0, none⟩ (.slice po L1.length co)).setCell ⟨w.heap.size, 1, none⟩ (.slice pn D1.length cn)).cell? ⟨w.heap.size, 1, none⟩ = some (.slice pn D1.length cn) := HX2.c0 1 _ rfl
      refine bodyPost_ret (v := .agg #[.slice po L1.length co, .slice pn D1.length cn]) (by simp [results, Tryz.results24, go_sem, r0, r1]) rfl ⟨_, _, rfl, ?_, ?_, ?_⟩
      · rw [← HL1.out]; exact msgs_off (show Blk _ w.heap.size 50 #[.slice po L1.length co, .slice none 0 0] from HX1) (msgs_off HF.out HMO.out 0 _) 1 _
      · rw [← HD1.out]; exact spans_off (show Blk _ w.heap.size 50 #[.slice po L1.length co, .slice none 0 0] from HX1) (spans_off HF.out HNO.out 0 _) 1 _
      · exact (HBZ.out.setCell (p := ⟨w.heap.size, 0, none⟩) (Nat.le_refl _) _).setCell (p := ⟨w.heap.size, 1, none⟩) (Nat.le_refl _) _

def RLive (w : World) (l : List Ms) (d : List Sp) (e : Ending) (w' : World) : Prop := ∃ p c q k, e = .returned (.agg #[.slice p (liveS l d).1.length c, .slice q (liveS l d).2.length k]) ∧ IsMsgs w' (.slice p (liveS l d).1.length c) (liveS l d).1 ∧ IsSpans w' (.slice q (liveS l d).2.length k) (liveS l d).2 ∧ Below w.heap.size w w'
theorem rlive_any (v vd : Value) (l : List Ms) (d : List Sp) (w : World) (hm : IsMsgs w v l) (hd : IsSpans w vd d) (ho : ∀ m ∈ l, Ok m ∧ OneToSix m) (hl : d.length + 4 * l.length ≤ 100) : Calls Tryz.prog 24 #[v, vd] w (RLive w l d) :=
  (rlive_w v vd l d w hm hd ho hl).mono fun e w' ⟨v1, v2, he, h1, h2, h3⟩ => by
    obtain ⟨p, c, rfl, -⟩ := id h1
    obtain ⟨q, k, rfl, -⟩ := id h2
    exact ⟨p, c, q, k, he, h1, h2, h3⟩
theorem fieldL (w : World) (a a' : Option Addr) (n c n' c' : Nat) : (Instr.field 50 (.agg #[.slice a n c, .slice a' n' c']) 0).run Tryz.prog w = .ok (.slice a n c) w := by kernel_rfl
set_option maxRecDepth 100000 in
set_option maxHeartbeats 2000000 in
theorem rreduce_w (v : Value) (l : List Ms) (w : World) (hm : IsMsgs w v l) (ho : ∀ m ∈ l, Ok m ∧ OneToSix m) (hl : 4 * l.length ≤ 100) : Calls Tryz.prog 28 #[v] w (MsOut w (reduceS l)) := by
  have HL := Lib.hid (rlive_any v (.slice none 0 0) l [] w hm (isSpans_nil w) ho (by simpa using hl))
  unfold reduceS
  clear hm ho hl
  have hfl := fieldL
  go_enter Tryz.func28, Tryz.ntmps28
  go_wp2_with (go_at_call 24; refine HL.out.mono ?_; rintro e w1 ⟨p, c, q, k, rfl, h1, h2, h3⟩)
  have H1 := Lib.hid h1
  have H3 := Lib.hid h3
  clear h1 h2 h3
  go_wp2
  go_ret
  exact ⟨_, rfl, H1.out, H3.out⟩
theorem own_emptyMs (W : World) (B : Nat) (hB : B ≤ W.heap.size) : OwnM (W.alloc (.cells #[] 25)) B (.slice (some ⟨W.heap.size, 0, none⟩) 0 0) [] :=
  ⟨rfl, .inr ⟨W.heap.size, 0, #[], rfl, hB, Blk.new _ _ _, Nat.le_refl _, by unfold maxLen; omega, rfl, rfl⟩⟩
set_option maxRecDepth 100000 in
set_option maxHeartbeats 2000000 in
theorem rmerge_w (v u : Value) (a b : List Ms) (w : World) (ha : IsMsgs w v a) (hb : IsMsgs w u b) (oa : ∀ m ∈ a, Ok m ∧ OneToSix m) (ob : ∀ m ∈ b, Ok m ∧ OneToSix m) (hl : 4 * (a.length + b.length) ≤ 100) : Calls Tryz.prog 30 #[v, u] w (MsOut w (mergeM a b)) := by
  have HR := Lib.hid (fun vc wx (h : IsMsgs wx vc (a ++ b)) => rreduce_w vc (a ++ b) wx h (fun m hm => (List.mem_append.1 hm).elim (oa m) (ob m)) (by simp; omega))
  have HA := Lib.hid ha
  have HB := Lib.hid hb
  obtain ⟨pa, ca, rfl, -⟩ := id ha
  obtain ⟨pb, cb, rfl, -⟩ := id hb
  unfold mergeM
  clear ha hb oa ob
  have hE := Lib.hid (own_emptyMs w w.heap.size (Nat.le_refl _))
  go_enter Tryz.func30, Tryz.ntmps30
  go_wp2_with (at_builtin; first
    | (refine append_msgs rfl _ _ rfl w.heap.size (.slice (some ⟨w.heap.size, 0, none⟩) 0 0) [] rfl ?a1 (.slice pa a.length ca) a rfl ?a2 ?a3 ?a4 ?_; (case a1 => exact hE.out); (case a2 => exact HA.out.below (below_box _)); (case a3 => simp; omega); (case a4 => simp); intro v1 w1 hown1 hbel1; rw [List.nil_append] at hown1; obtain ⟨p1, c1, rfl, h11, h12⟩ := own_formM hown1)
    | (refine append_msgs rfl _ _ rfl w.heap.size (.slice p1 a.length c1) a rfl ?b1 (.slice pb b.length cb) b rfl ?b2 ?b3 ?b4 ?_; (case b1 => exact hown1); (case b2 => exact HB.out.below ((below_box _).trans (hbel1.mono (by simp)))); (case b3 => omega); (case b4 => exact Nat.le_trans (by simp) hbel1.size); intro v2 w2 hown2 hbel2))
  have HB2 : Hid (Below w.heap.size w w2) := Lib.hid (((below_box _).trans (hbel1.mono (by simp))).trans hbel2)
  have HR2 := Lib.hid (HR.out _ _ hown2.msgs)
  clear hown2 hbel2 hown1 hbel1
  go_wp2_with (go_at_call 28; refine HR2.out.mono ?_; rintro e w3 ⟨v3, rfl, h1, h3⟩)
  have H1 := Lib.hid h1
  have H3 : Hid (Below w.heap.size w w3) := Lib.hid (HB2.out.trans (h3.mono HB2.out.size))
  clear h1 h3
  go_wp2
  go_ret
  exact ⟨_, rfl, H1.out, H3.out⟩

end Go.Proofs.YtpppkjcbheooeaaGreat
